import PyProof.Rows.All
import Wide.All
import OpenK.AllK
import Wide.FinOn
import Lean
import PyProof.EqAt
import PyProof.EqKinds
import PyProof.TupleCall
import PyProof.NeKinds
import PySem.Challenge.RW_copykin_k13_whole_any_rows
open Array renaming getElem?_eq_some_iff → cb, length_toList → cC, getElem?_setIfInBounds_self_of_lt → jP, find?_toList → lX, size_append → mK
open Bool renaming and_eq_true → ae, false_ne_true → aP, or_eq_true → bK, false_and → bT, false_eq_true → bW, true_and → cG, and_false → dQ, not_true → iG, and_eq_true_iff → kl, not_eq_true' → m5, and_true → uC, beq_eq_decide_eq → yu
open False renaming elim → dM
open ForInStep renaming yield → dZ
open Int renaming emod_nonneg → bu, emod_lt_of_pos → bZ, eq_ofNat_of_zero_le → jf, toNat → lb, fdiv_eq_ediv_of_nonneg → uq
open Lean.Name renaming str → bj, anonymous → uB
open List renaming getElem?_eq_getElem → ah, mem_cons_self → aq, length_map → av, mem_cons_of_mem → aw, size_toArray → ax, mem_cons → aA, length_append → aD, getElem?_eq_some_iff → aE, mem_append_right → aG, lookup_cons → aH, all_eq_true → aM, range → aU, replicate → aV, length_cons → aY, mem_of_getElem? → a7, getD_eq_getElem?_getD → a8, mem_singleton → bc, not_mem_nil → bh, map_cons → bo, length_take → bt, getElem?_map → bw, mem_map → bA, lookup → bD, mem_append_left → bG, mem_append → bJ, getElem?_append_right → cf, getElem?_append_left → ck, length_eq_zero_iff → cy, append_assoc → cz, foldl_cons → cA, take_of_length_le → cE, map_append → cT, replicate_succ → dg, length_drop → di, getElem_mem → dj, mem_of_mem_take → dO, map_map → dY, nodup_cons → eM, nodup_append → fm, mem_iff_getElem? → fL, take_length → fM, ext_getElem → fN, mem_range → gO, getElem?_drop → gP, length → ik, flatten_cons → il, map_take → iE, all_cons → iF, find?_cons → jC, length_singleton → jN, getElem?_set_ne → kh, filterMap_cons → la, sum_cons → lR, lookup_append → mw, take_sublist → mY, take_add_one → mZ, all_map → m4, cons_append → pf, any_eq_true → ph, of_mem_zip → qy, nil_append → qz, append_nil → qA, forIn_nil → sj, drop_zero → sk, getElem?_take_of_lt → uA, pairwise_lt_range → wZ, getElem?_set_self → w4, find?_cons_of_pos → w6, find?_cons_of_neg → w8, eq_nil_or_concat → yr, mem_of_mem_drop → yx, mem_iff_getElem → yy, contains_eq_mem → yz, toList_toArray → A2, map_congr_left → A3
open List.Pairwise renaming nil → fZ
open List.cons renaming inj → jO
open Nat renaming le_refl → ao, le_trans → au, lt_of_lt_of_le → aQ, ne_of_lt → aW, zero_le → bf, add_le_add_right → cX, lt_irrefl → da, le_succ_of_le → fz, le_succ → gr, lt_of_le_of_lt → gZ, lt_succ_of_lt → iD, lt_succ_self → jd, le_of_not_lt → je, ne_of_gt → jA, lt_trans → jB, le_of_lt → o7, min_eq_right → pL, min_eq_left → r9, sub_zero → yp, le_of_eq → yq
open Nat.succ renaming inj → k9
open Ne renaming symm → bO
open Option renaming isSome_iff_exists → bB, bind_some → dc, isSome_some → eA, map_eq_some_iff → eT, getD_none → mX
open Option.some renaming inj → aX, injEq → ez
open PyProof.Rows renaming slot_tuple_getitem → bC, callWith_type1 → dm, AllBare → jw, callWith_builtin1 → kg, boot_tuple → o6, boot_list → pd, boot_int → pK, subscriptTail → AW
open PyProof.Rows.F renaming plain_set_update_loop → dw, entry_set_update_loop → iC
open PySem renaming wpAny_bind → af, wpAny_pure → aj, starEach → aB, mem_of_lookup → aT, mainGlobals → a0, cellsFrom → bx, wpAny_mono → bM, wpAny_holding → bN, compareOp → bV, SetTable → bY, wpAny_truthy_bool → cj, NameKind → cu, binaryOp → cB, wpAny_Call_Name_kw → cS, FuncData → dh, wpAny_standAt → dN, wpAny_newObj_type → dX, strIterType → ef, codeAny_call_builtin → eh, assignEach → er, bootBuiltins → eL, wpAny_call → fv, wpAny_field → fA, scanBound → fB, excClassObj → fC, wpAny_loadPart_at → fV, foldedSetIterable → fW, codeAny_mono → fX, call_meets → gz, Within → gA, sliceBounds → gN, wpAny_passesOwn → gW, codeAny → ic, treeTable → iA, noteFrame → iB, typeIs_str → iM, builtinsNs → iN, wpAny_pyIter_list → jt, keywordEach → ju, wpAny_callSpecial?_slot → ka, swapsWith → kb, relayAll → kc, wpAny_Name → kU, sysModules → kW, letOwnedTupleGo → kY, codeAny_builtin → kZ, wpAny_attempt → o9, attributeBase → pb, wpAny_rule → pI, wpAny_typeOf → rS, valueAt → rT, standAt → rV, getItem → rW, backToKw → rX, GenState → se, wpAny_call_entry → uf, setFlight → ug, onTheHeap → uh, noFill_tuple_add → ui, checkBuiltinCall → uj, codeAny_of_tree → vI, callerA → wU, UnaryOp → wV, wpAny_loadPart → ym, swapsWithSole → AV, seq_tuple_add → AX, behindInMarks → AY
open PySem.Around renaming under_plainId → jQ, under → uD
open PySem.Builtin.List renaming listTooLong → gu
open PySem.Builtin.Slice renaming slicePlaces → dy, sliceAdjust → fY, sliceApplied → lW
open PySem.Builtin.Str renaming occurrences → bS, strSliceIndices → mz, partsBetween → o8, strKind → so
open PySem.Builtin.Tuple renaming tupleExact → dI, tupleItemsOf → lU, tupleIsExact → lV
open PySem.Calls renaming spliced_cons → eN, callWith_builtin → jg, Constant_str → lS, Name_function_global → sf, evalArgs_plain → yt
open PySem.Code renaming quiet_builtin → my, isFrame → w9
open PySem.EntryCells renaming newEntry → ur
open PySem.F renaming attrBase_ValueError → dv, slot_str_split → eP, plainAttrs_str → eQ, excBase_ValueError → gC, args_tuple_add_2 → gX, args_str_split_2 → gY, plainAttrs_list → ie, entry_tuple_add → ig, entry_str_split → ij, slot_tuple_add → iO, slot_str_upper → uo, entry_bexc_ga → uz
open PySem.Heap renaming get?_push_of_some → ai, lt_size → ay, get?_push_size → aO, get?_update_other → aS, get?_update_self → cQ, size_push → dP, SameBut → gJ, get?_none_of_le → ki, MadeExcOf → kj
open PySem.Heap.SameBut renaming update → sd
open PySem.IsL renaming update → yo
open PySem.NameKind renaming free → be, cell → bE
open PySem.Obj renaming mapFields → cZ, data_mapFields → eS, mapSeq → jz, isFreed_of_fields → kd
open PySem.Paired renaming length → si, snoc → wY
open PySem.PyData renaming keyHash → ag
open PySem.SeqAt.EqAt renaming str_int → ux, int_str → uy
open PySem.SetTable renaming below → cD, grown → cY, insertAt → k8, has → sg, orStandIn → wW, relaid → AZ
open PySem.SetTable.below renaming go → rZ
open PySem.SetTable.probe renaming go → jv
open PySem.Str renaming ofString → aI, length → bX, join → dk, empty → d9, cps → k7
open PySem.StrLaws renaming glued_eq_join → cJ, join_split → yn
open PySem.Txt renaming join → dW, replace → gq
open PySem.Value renaming ref → bg, none → cL, builtin → eu, type → jc, bool → rY, str → uu, int → uw
open PySem.W renaming Frag → aa, fnOf → aC, kitOne → a6, mg_of → br, nsIn → bI, kia_one → bR, keepIn → b9, kmHook → dG, codeIn → dH, findIn → eO, fencedOpening → fi, callWith_K → gB, topFrom → iP, looks_findIn → kX, specialIn → lP, methodObj → lQ, findObj → mW, instObj → o5, lookIn → pJ, mroIn → r6, cellsFrom_some → um, looks_clsIn → wX, kitx_list → yv, kitx_dict → yw, plainGet → A0, openSeen → A1
open PySem.W.Hook renaming val → ke, obs → kf
open PySem.W.Looks renaming here → r8
open PySem.Within renaming cons → uk
open Sum renaming inr → cF, inl → fw
open Sum.inr renaming inj → vJ
set_option Elab.async false
set_option linter.all false
set_option maxRecDepth 100000
set_option maxHeartbeats 0
namespace K13
open PySem PySem.Spec PySem.Calls PyProof.Rows
noncomputable def top(i:Nat):Stmt:=PySem.Challenge.pw_copykin_k13_whole_any_rows.main.body.getD i (.Pass ⟨0,0,0,0⟩)
noncomputable def dt(i j:Nat):Stmt:=match top i with
 |.ClassDef _ _ _ b .. =>b.getD j (.Pass ⟨0,0,0,0⟩)
 |s=>s
noncomputable def vw:Program:=
 {PySem.Challenge.pw_copykin_k13_whole_any_rows with main:={PySem.Challenge.pw_copykin_k13_whole_any_rows.main with body:=[top 1,top 2,top 3,top 4,top 5,top 6,top 7,top 9,top 10,top 11,top 12,top 13,top 14,top 15,top 16,top 17,top 18,top 20,top 21,top 22,top 23,top 24,top 26,top 27,top 28,top 29,top 30,top 31,top 32,top 33,top 34,top 35,top 36,top 37,top 38]}}
noncomputable def loo:List Str:=[aI "NoText",aI "FIGURES"]
noncomputable def xt(s:Shared):Bool:=PySem.W.xlAt vw [] s&&PySem.W.recOk [] s
noncomputable def lhsA0(w:World):=(fi iA PySem.Challenge.pw_copykin_k13_whole_any_rows w 4810).map fun s₀=>(iP iA PySem.Challenge.pw_copykin_k13_whole_any_rows (w.withFollow "special-get-raises" false) 4810 s₀).map
 (A1 vw loo (importedModules PySem.Challenge.pw_copykin_k13_whole_any_rows.main.body) xt true)
noncomputable def lhsA1(w:World):=(fi iA PySem.Challenge.pw_copykin_k13_whole_any_rows w 4810).map fun s₀=>(iP iA PySem.Challenge.pw_copykin_k13_whole_any_rows (w.withFollow "special-get-raises" true) 4810 s₀).map
 (A1 vw loo (importedModules PySem.Challenge.pw_copykin_k13_whole_any_rows.main.body) xt true)
noncomputable def rhsA(_:World):=some (some (PySem.W.openGood vw loo))
noncomputable def seen{α:Type}(_:α):Bool:=true
theorem laidA:(seen lhsA0&&seen lhsA1&&seen rhsA)=true:=by k_qdec
theorem leftA0(w:World):lhsA0 w=rhsA w:=by
 have _:=laidA;rw[PySem.W.Fast.te5991153879726845764,PySem.W.Fast.te1102205200491819493]
 kernel_rfl
theorem leftA1(w:World):lhsA1 w=rhsA w:=by
 have _:=laidA;rw[PySem.W.Fast.te17362319989458416511,PySem.W.Fast.te1102205200491819493]
 kernel_rfl
theorem both{α β γ:Type}{o:Option α}{f:α->β}{g:α->γ}{a:β}{b:γ}(h:o.map f=some a)(k:o.map g=some b):(o.map fun s=>(f s,g s))=some (a,b):=by
 cases o with
 |none=>cases h
 |some x=>
  injection h with h;injection k with k;rw[<-h,<-k];rfl
theorem both4{σ τ β γ:Type}{o:Option σ}{f g:σ->Option τ}{u:τ->β}{v:τ->γ}{a:β}{b c:γ}(h1:(o.map fun s=>(f s).map u)=some (some a))(h2:(o.map fun s=>(f s).map v)=some (some b))(h3:(o.map fun s=>(g s).map u)=some (some a))(h4:(o.map fun s=>(g s).map v)=some (some c)):
  (o.map fun s=>((f s).map fun x=>(u x,v x),(g s).map fun x=>(u x,v x)))=some (some (a,b),some (a,c)):=by
 cases o with
 |none=>cases h1
 |some x=>
  simp only[Option.map_some,ez]at h1 h2 h3 h4⊢;rw[both h1 h2,both h3 h4]
end K13
namespace L2
open PySem PySem.Spec PyProof.Rows
noncomputable abbrev Key:=Sum Int Str
noncomputable def qg:Key->Value->Bool
 |.inl k,v=>Value.isInt k v
 |.inr x,v=>Value.isStrOf x v
noncomputable def keyH(w:World):Key->Int
 |.inl k=>hashInt k
 |.inr x=>hashStr w x
theorem cO:∀{k:Key}{v:Value},qg k v=true->(∃i t,k=fw i/\v=uw i t)\/(∃x t,k=cF x/\v=uu x t)
 |.inl i,v,h=>by
  obtain⟨t,e⟩:=Value.isInt_shape (k:=i) (v:=v) h;exact .inl ⟨i,t,rfl,e⟩
 |.inr x,v,h=>by
  obtain⟨t,e⟩:=Value.isStrOf_shape (x:=x) (v:=v) h;exact .inr ⟨x,t,rfl,e⟩
theorem xS(i:Int)(t:Tok):qg (.inl i) (.int i t)=true:=by simp[qg,Value.isInt]
theorem xR(x:Str)(t:Tok):qg (.inr x) (.str x t)=true:=by simp[qg,Value.isStrOf]
theorem key_ll(a b:Int):decide ((fw a:Key)=fw b)=(a==b):=by
 by_cases e:a=b
 ·subst e;simp
 ·have h:¬(fw a:Key)=fw b:=fun q=>e (fw.inj q)
  rw[decide_eq_false h];exact(beq_eq_false_iff_ne.mpr e).symm
theorem key_rr(a b:Str):decide ((cF a:Key)=cF b)=decide (a=b):=by
 by_cases e:a=b
 ·subst e;simp
 ·have h:¬(cF a:Key)=cF b:=fun q=>e (vJ q)
  rw[decide_eq_false h,decide_eq_false e]
theorem key_lr(a:Int)(b:Str):decide ((fw a:Key)=cF b)=false:=decide_eq_false (fun q=>nomatch q)
theorem key_rl(a:Str)(b:Int):decide ((cF a:Key)=fw b)=false:=decide_eq_false (fun q=>nomatch q)
noncomputable def de(prog:Program)(w:World):PySem.KeyKind prog w Key where
 is:=qg
 hash:=keyH w
 inj:=fun v a b ha hb=>by
  rcases cO ha with⟨i,t,rfl,rfl⟩ |⟨x,t,rfl,rfl⟩
  ·rcases cO hb with⟨j,u,rfl,e⟩ |⟨y,u,rfl,e⟩
   ·injection e with e1 _;rw[e1]
   ·exact nomatch e
  ·rcases cO hb with⟨j,u,rfl,e⟩ |⟨y,u,rfl,e⟩
   ·exact nomatch e
   ·injection e with e1 _;rw[e1]
 byValue:=fun k v h=>by
  rcases cO h with⟨i,t,rfl,rfl⟩ |⟨x,t,rfl,rfl⟩<;>rfl
 pyHash:=fun hv h=>by
  rcases cO hv with⟨i,t,rfl,rfl⟩ |⟨x,t,rfl,rfl⟩
  ·exact wpAny_pyHash_int h
  ·exact wpAny_pyHash_str h
 eqBool:=fun hu hv h=>by
  rcases cO hu with⟨i,t,rfl,rfl⟩ |⟨x,t,rfl,rfl⟩
  ·rcases cO hv with⟨j,u,rfl,rfl⟩ |⟨y,u,rfl,rfl⟩
   ·rw[key_ll]at h;exact wpAny_eqBool_int h
   ·rw[key_lr]at h;exact uy i t y u _ _ _ _ h
  ·rcases cO hv with⟨j,u,rfl,rfl⟩ |⟨y,u,rfl,rfl⟩
   ·rw[key_rl]at h;exact ux x t j u _ _ _ _ h
   ·rw[key_rr]at h;exact wpAny_eqBool_str h
 «strs»:=fun k x t v h=>by
  rcases cO h with⟨i,u,rfl,e⟩ |⟨y,u,rfl,e⟩
  ·exact nomatch e
  ·injection e with e1 _
   subst e1;cases v<;>rfl
theorem tB(prog:Program)(w:World)(i:Int)(t:Tok):(de prog w).is (.inl i) (.int i t)=true:=xS i t
theorem tx(prog:Program)(w:World)(x:Str)(t:Tok):(de prog w).is (.inr x) (.str x t)=true:=xR x t
inductive V where
 |non|bl (b:Bool) |int (i:Int) |str (x:Str) |byt (b:Array UInt8) |flt (b:UInt64) |ref (a:Addr) |ty (n:String)
 deriving DecidableEq
noncomputable def RelV:V->Value->Prop
 |.non,u=>u=cL
 |.bl b,u=>u=rY b
 |.int i,u=>∃t,u=uw i t
 |.str x,u=>∃t,u=uu x t
 |.byt b,u=>∃t,u=Value.bytes b t
 |.flt b,u=>∃t,u=Value.float b t
 |.ref a,u=>u=bg a
 |.ty n,u=>u=jc n
noncomputable abbrev bp:List V->List Value->Prop:=Paired RelV
theorem bp.length{xs:List V}{us:List Value}(r:bp xs us):xs.length=us.length:=si r
theorem bp.get:∀{xs:List V}{us:List Value}{i:Nat}{x:V},bp xs us->xs[i]? =some x->∃u,us[i]? =some u/\RelV x u
 |_,_,_,_,.nil,e=>by simp at e
 |_,_,0,_,.cons r _,e=>by simp at e;subst e;exact⟨_,rfl,r⟩
 |_,_,i+1,x,.cons _ t,e=>by
  obtain⟨u,h1,h2⟩:=bp.get (i:=i) (x:=x) t (by simpa using e);exact⟨u,by simpa using h1,h2⟩
theorem bp.set{x:V}{u:Value}(r:RelV x u):∀{xs:List V}{us:List Value}(i:Nat),bp xs us->bp (xs.set i x) (us.set i u)
 |_,_,_,.nil=>.nil
 |_,_,0,.cons _ t=>.cons r t
 |_,_,i+1,.cons q t=>.cons q (bp.set r i t)
theorem bp.append:∀{xs ys:List V}{us ws:List Value},bp xs us->bp ys ws->bp (xs++ys) (us++ws)
 |_,_,_,_,.nil,s=>s
 |_,_,_,_,.cons r t,s=>.cons r (bp.append t s)
theorem bp.take:∀{xs:List V}{us:List Value}(n:Nat),bp xs us->bp (xs.take n) (us.take n)
 |_,_,0,_=>.nil
 |_,_,_+1,.nil=>.nil
 |_,_,n+1,.cons r t=>.cons r (bp.take n t)
theorem bp.drop:∀{xs:List V}{us:List Value}(n:Nat),bp xs us->bp (xs.drop n) (us.drop n)
 |_,_,0,r=>r
 |_,_,_+1,.nil=>.nil
 |_,_,n+1,.cons _ t=>bp.drop n t
noncomputable def mI:Option V->Option Value->Prop
 |some v,some u=>RelV v u
 |none,none=>True
 |_,_=>False
noncomputable def KV{κ:Type}:List (κ×V)->List (κ×Value)->Prop:=Paired fun(p:κ×V)(q:κ×Value)=>p.1=q.1/\RelV p.2 q.2
noncomputable def kV:Key->V
 |.inl i=>.int i
 |.inr x=>.str x
inductive HO where
 |lst (xs:List V)
 |tup (xs:List V)
 |dK (kvs:List (Key×V)) |dT (kvs:List (List Key×V))
 |set (S:Int->Bool) (n:Nat)
 |ins (C dx:Addr) (fs:List (Str×V))
 |own (x:Addr)
 |xd (fs:List (Str×V))
 |met (f x:Addr)
 |rng (lo hi:Int)
 |frz (o:Obj) (u:HO)
 |tbl (ps:Array Value)
 |ext (φ:Heap->Prop)
noncomputable abbrev Hp:=Addr->Option HO
noncomputable def upd(H:Hp)(a:Addr)(o:HO):Hp:=fun b=>if b=a then some o else H b
theorem ak{H:Hp}{a:Addr}{o:HO}:upd H a o a=some o:=by unfold upd;rw[if_pos rfl]
theorem aL{H:Hp}{a b:Addr}{o:HO}(h:b≠a):upd H a o b=H b:=by unfold upd;rw[if_neg h]
theorem ba{H:Hp}{a b:Addr}{o:HO}(h:H a=some o)(h':H b=none):a≠b:=by
 intro e;subst e;rw[h]at h';cases h'
section
variable(P:Program)(w:World)
noncomputable def cW(H:Hp)(h:Heap)(a:Addr):HO->Prop
 |.lst xs=>xs.length<=sizeLine/\∃(its:List Value)(n:Nat),bp xs its/\h.get? a=some {cls:=.type "list",data:=.seq its.toArray n}
 |.tup xs=>xs.length<=sizeLine/\∃its:List Value,bp xs its/\IsTup h a its.toArray
 |.dK kvs=>kvs.length<=sizeLine/\(a==kW)=false/\∃vs,KV kvs vs/\h.DictOf (de P w) a vs
 |.dT kvs=>kvs.length<=sizeLine/\(a==kW)=false/\∃xs:List (List Key×Addr×Value),
   Paired (fun(p:List Key×V)(q:List Key×Addr×Value)=>p.1=q.1/\H q.2.1=some (.tup (p.1.map kV))/\RelV p.2 q.2.2) kvs xs/\
   ∃o es ep,h.get? a=some o/\o.ExactDict/\o.data=.dict es ep/\es.toList=xs.map (entryOfKey (tupleKind (de P w)))/\(xs.map (·.1)).Nodup
 |.set S n=>h.SetOf (intKind P w) a S n
 |.ins C dx fs=>H dx=some (.own a)/\fs.length<=1000/\dx≠a/\h.get? a=some (o5 C dx)/\
   ∃mA,h.Ns1 dx mA/\(∀f,mI (fs.lookup f) (mA f))/\gA mA (fs.map (·.1))
 |.own _=>∃o,h.get? a=some o
 |.xd fs=>∃mA,h.Ns1 a mA/\∀f,mI (fs.lookup f) (mA f)
 |.rng lo hi=>∃t u v,h.get? a=some {cls:=.type "range",data:=.fields #[.int lo t,.int hi u,.int 1 v]}
 |.frz o u=>h.get? a=some o/\cW H h a u
 |.tbl ps=>h.get? a=some {cls:=.none,data:=.fields ps}
 |.met f x=>h.get? a=some (lQ (.ref f) (.ref x))
 |.ext φ=>φ h/\(∃o,h.get? a=some o)/\∀h1 h2:Heap,φ h1->(∀o,h1.get? a=some o->h2.get? a=some o)->φ h2
noncomputable def HOk(H:Hp)(h:Heap):Prop:=∀a o,H a=some o->cW P w H h a o
end
section
variable {P:Program}{w:World}{H H':Hp}{h h':Heap}{a:Addr}{o:HO}
theorem cW.lt(x:cW P w H h a o):a<h.objs.size:=by
 cases o with
 |lst xs=>obtain⟨_,_,_,_,e⟩:=x;exact ay e
 |tup xs=>obtain⟨_,_,_,p⟩:=x;exact p.lt
 |dK kvs=>obtain⟨_,_,_,_,o,_,_,e,_⟩:=x;exact ay e
 |dT kvs=>obtain⟨_,_,_,_,o,_,_,e,_⟩:=x;exact ay e
 |set S n=>obtain⟨o,_,_,_,e,_⟩:=x;exact ay e
 |ins C dx fs=>obtain⟨_,_,_,e,_⟩:=x;exact ay e
 |own y=>obtain⟨_,e⟩:=x;exact ay e
 |xd fs=>obtain⟨_,⟨_,_,_,e,_⟩,_⟩:=x;exact ay e
 |rng lo hi=>obtain⟨_,_,_,e⟩:=x;exact ay e
 |frz ob u=>obtain⟨e,_⟩:=x;exact ay e
 |tbl ps=>exact ay (show h.get? a=some _ from x)
 |met f y=>exact ay (show h.get? a=some _ from x)
 |ext φ=>obtain⟨_,⟨_,e⟩,_⟩:=x;exact ay e
theorem Paired.mapP{α β:Type}{F G:α->β->Prop}:∀{l₁:List α}{l₂:List β},Paired F l₁ l₂->(∀a b,F a b->G a b)->Paired G l₁ l₂
 |_,_,.nil,_=>.nil
 |_,_,.cons r t,f=>.cons (f _ _ r) (Paired.mapP t f)
theorem cW.mC(x:cW P w H h a o)(k:∀b u,(b=a\/H b=some (.own a))->h.get? b=some u->h'.get? b=some u)
  (ho:∀b,H b=some (.own a)->H' b=some (.own a))(ht:∀b xs,H b=some (.tup xs)->H' b=some (.tup xs)):cW P w H' h' a o:=by
 induction o with
 |lst xs=>obtain⟨z,its,n,r,e⟩:=x;exact⟨z,its,n,r,k _ _ (.inl rfl) e⟩
 |tup xs=>obtain⟨z,its,r,ob,e,c⟩:=x;exact⟨z,its,r,ob,k _ _ (.inl rfl) e,c⟩
 |dK kvs=>obtain⟨z,y,vs,r,ob,es,ep,e,c⟩:=x;exact⟨z,y,vs,r,ob,es,ep,k _ _ (.inl rfl) e,c⟩
 |dT kvs=>
  obtain⟨z,y,xs,r,ob,es,ep,e,c⟩:=x;exact⟨z,y,xs,Paired.mapP r fun p q z=>⟨z.1,ht _ _ z.2.1,z.2.2⟩,ob,es,ep,k _ _ (.inl rfl) e,c⟩
 |set S n=>obtain⟨ob,es,ep,t,e,c⟩:=x;exact⟨ob,es,ep,t,k _ _ (.inl rfl) e,c⟩
 |ins C dx fs=>
  obtain⟨d,z,ne,e,mA,⟨od,es,ep,e2,c⟩,r⟩:=x;exact⟨ho _ d,z,ne,k _ _ (.inl rfl) e,mA,⟨od,es,ep,k _ _ (.inr d) e2,c⟩,r⟩
 |own y=>obtain⟨ob,e⟩:=x;exact⟨ob,k _ _ (.inl rfl) e⟩
 |xd fs=>obtain⟨mA,⟨od,es,ep,e,c⟩,r⟩:=x;exact⟨mA,⟨od,es,ep,k _ _ (.inl rfl) e,c⟩,r⟩
 |rng lo hi=>obtain⟨t,u,v,e⟩:=x;exact⟨t,u,v,k _ _ (.inl rfl) e⟩
 |frz ob u ih=>obtain⟨e,q⟩:=x;exact⟨k _ _ (.inl rfl) e,ih q⟩
 |tbl ps=>
  have e:h.get? a=some {cls:=.none,data:=.fields ps}:=x;show h'.get? a=some {cls:=.none,data:=.fields ps};exact k a _ (.inl rfl) e
 |met f y=>
  have e:h.get? a=some (lQ (.ref f) (.ref y)):=x;show h'.get? a=some (lQ (.ref f) (.ref y));exact k a _ (.inl rfl) e
 |ext φ=>obtain⟨p,⟨o,e⟩,st⟩:=x;exact⟨st _ _ p fun o q=>k _ _ (.inl rfl) q,⟨o,k _ _ (.inl rfl) e⟩,st⟩
theorem HOk.lt(x:HOk P w H h)(e:H a=some o):a<h.objs.size:=(x a o e).lt
theorem HOk.fresh(x:HOk P w H h)(e:h.objs.size<=a):H a=none:=by
 cases q:H a with
 |none=>rfl
 |some u=>exact absurd (aQ (x.lt q) e) (da _)
theorem HOk.kept(x:HOk P w H h)(k:∀b u,h.get? b=some u->h'.get? b=some u):HOk P w H h':=fun a o e=>
 (x a o e).mC (fun b u _ q=>k b u q) (fun _ q=>q) fun _ _ q=>q
theorem HOk.laid(x:HOk P w H h)(k:∀b u,h.get? b=some u->h'.get? b=some u)(hp:h.objs.size<=a)(new:cW P w (upd H a o) h' a o):HOk P w (upd H a o) h':=fun b u e=>by
 have hn:=x.fresh hp;by_cases hb:b=a
 ·subst hb;rw[ak]at e;cases e;exact new
 ·rw[aL hb]at e
  exact(x b u e).mC (fun c v _ q=>k c v q) (fun c q=>by rw[aL (ba q hn)];exact q) fun c xs q=>by rw[aL (ba q hn)];exact q
end
noncomputable def Rd(H:Hp)(a:Addr)(u:HO):Prop:=H a=some u\/∃o,H a=some (.frz o u)
theorem Rd.ok{P:Program}{w:World}{H:Hp}{h:Heap}{a:Addr}{u:HO}(r:Rd H a u)(x:HOk P w H h):cW P w H h a u:=by
 rcases r with r|⟨o,r⟩
 ·exact x a u r
 ·obtain⟨_,q⟩:=x a _ r
  exact q
noncomputable def Mut:Option HO->Prop
 |some (.lst _)=>True
 |some (.dK _)=>True
 |some (.dT _)=>True
 |some (.set _ _)=>True
 |some (.ins _ _ _)=>True
 |some (.ext _)=>True
 |_=>False
section
variable {P:Program}{w:World}{H:Hp}{h h':Heap}{x e:Addr}{o':HO}
theorem HOk.write(ok:HOk P w H h)(mu:Mut (H x))(he:e=x\/H e=some (.own x))(k:∀b u,b≠e->h.get? b=some u->h'.get? b=some u)(heo:∃u,h'.get? e=some u)
  (new:cW P w (upd H x o') h' x o'):HOk P w (upd H x o') h':=fun b u q=>by
 have nown:∀c y,H c=some (.own y)->c≠x:=fun c y r z=>by subst z;rw[r]at mu;exact mu
 have ntup:∀c xs,H c=some (.tup xs)->c≠x:=fun c xs r z=>by subst z;rw[r]at mu;exact mu
 by_cases hb:b=x
 ·subst hb;rw[ak]at q;cases q;exact new
 ·rw[aL hb]at q
  by_cases hbe:b=e
  ·have q':H b=some (.own x):=by
    rcases he with z|z
    ·exact absurd (hbe.trans z) hb
    ·rw[hbe];exact z
   rw[q]at q';cases q';obtain⟨v,hv⟩:=heo;exact⟨v,by rw[hbe];exact hv⟩
  ·refine(ok b u q).mC (fun c v hc r=>k c v ?_ r) (fun c r=>by rw[aL (nown c b r)];exact r) fun c xs r=>by rw[aL (ntup c xs r)];exact r
   rcases hc with rfl|hc
   ·exact hbe
   ·rintro rfl
    rcases he with z|z
    ·exact nown c b hc z
    ·rw[hc]at z;cases z;exact hb rfl
end
structure Un(fs ex:List Addr)(H H':Hp)(h h':Heap):Prop where
 keep:∀b o,h.get? b=some o->H b=none->b∉fs->b∉ex->h'.get? b=some o
 slot:∀b o,h.get? b=some o->H b=none->b∈fs->b∉ex->∃sl,h'.get? b=some {o with slots:=sl}
 free:∀b o,h.get? b=some o->H b=none->b∉ex->H' b=none
 there:∀b o,h.get? b=some o->b∉ex->∃o',h'.get? b=some o'
 tups:∀b xs,H b=some (.tup xs)->H' b=some (.tup xs)
 frzs:∀b o u,H b=some (.frz o u)->H' b=some (.frz o u)
 tbls:∀b ps,H b=some (.tbl ps)->∃more,H' b=some (.tbl (ps++more))
section
variable {fs fs' ex ex':List Addr}{H H1 H2:Hp}{h h1 h2 h':Heap}{a x e:Addr}{o:HO}
theorem Un.any(u:Un fs ex H H1 h h1){b:Addr}{ob:Obj}(q:h.get? b=some ob)(n:H b=none)(hx:b∉ex):∃sl,h1.get? b=some {ob with slots:=sl}:=by
 by_cases hb:b∈fs
 ·exact u.slot b ob q n hb hx
 ·exact⟨ob.slots,u.keep b ob q n hb hx⟩
theorem Un.kept(k:∀b u,h.get? b=some u->h'.get? b=some u):Un fs ex H H h h':=
 ⟨fun b ob q _ _ _=>k b ob q,fun b ob q _ _ _=>⟨ob.slots,k b ob q⟩,fun _ _ _ n _=>n,fun b ob q _=>⟨ob,k b ob q⟩,fun _ _ q=>q,fun _ _ _ q=>q,fun _ ps q=>⟨#[],by rw[q];simp⟩⟩
theorem Un.refl:Un fs ex H H h h:=Un.kept fun _ _ q=>q
theorem Un.laid(k:∀b u,h.get? b=some u->h'.get? b=some u)(hp:h.objs.size<=a)(hn:H a=none):Un fs ex H (upd H a o) h h' where
 keep:=fun b u q _ _ _=>k b u q
 slot:=fun b u q _ _ _=>⟨u.slots,k b u q⟩
 free:=fun b u q n _=>by rw[aL (aW (aQ (ay q) hp))];exact n
 there:=fun b u q _=>⟨u,k b u q⟩
 tups:=fun b xs q=>by rw[aL (ba q hn)];exact q
 frzs:=fun b u xs q=>by rw[aL (ba q hn)];exact q
 tbls:=fun b ps q=>⟨#[],by rw[aL (ba q hn),q];simp⟩
theorem Un.write(mu:Mut (H x))(he:e=x\/H e=some (.own x))(k:∀b u,b≠e->h.get? b=some u->h'.get? b=some u)(heo:∃u,h'.get? e=some u):Un fs ex H (upd H x o) h h':=by
 have hx:∀b,H b=none->b≠x:=fun b n z=>by subst z;rw[n]at mu;exact mu
 have hb:∀b,H b=none->b≠e:=fun b n z=>by
  subst z;rcases he with r|r
  ·exact hx b n r
  ·rw[n]at r;cases r
 have hm:∀b u,H b=some u->¬Mut (some u)->b≠x:=fun b u q nm z=>by subst z;rw[q]at mu;exact nm mu
 refine⟨fun b u q n _ _=>k b u (hb b n) q,fun b u q n _ _=>⟨u.slots,k b u (hb b n) q⟩,fun b u q n _=>by rw[aL (hx b n)];exact n,fun b u q _=>?_,
  fun b xs q=>by rw[aL (hm b _ q fun z=>z)];exact q,fun b u xs q=>by rw[aL (hm b _ q fun z=>z)];exact q,fun b ps q=>⟨#[],by rw[aL (hm b _ q fun z=>z),q];simp⟩⟩
 by_cases hbe:b=e
 ·subst hbe;exact heo
 ·exact⟨u,k b u hbe q⟩
end
noncomputable def trk(h:Heap)(H:Hp):List Addr:=(aU h.objs.size).filter fun a=>(H a).isSome
noncomputable def tM(h:Heap)(H:Hp):Heap:=PySem.W.hideAll h (trk h H)
theorem xX(h:Heap)(H:Hp):(tM h H).objs.size=h.objs.size:=PySem.W.hideAll_size _ _
theorem oi{h:Heap}{H:Hp}{b:Addr}{o:Obj}(e:h.get? b=some o)(n:H b=none):(tM h H).get? b=some o:=
 PySem.W.hideAll_get _ e fun hm=>by
  have q:(H b).isSome=true:=(List.mem_filter.mp hm).2;rw[n]at q;simp at q
theorem of_hidT{h:Heap}{H:Hp}{b:Addr}{o:Obj}(e:(tM h H).get? b=some o):h.get? b=some o/\H b=none:=by
 have e':h.get? b=some o:=PySem.W.of_hideAll (trk h H) e;refine⟨e',?_⟩;cases q:H b with
 |none=>rfl
 |some x=>
  have hm:b∈trk h H:=List.mem_filter.mpr ⟨gO.mpr (ay e'),by simp[q]⟩;have z:(tM h H).get? b=none:=PySem.W.hideAll_none (trk h H) hm;rw[z]at e;cases e
structure Mod(K:aa)(mg:Str->Option Value)(base:Heap):Prop where
 kin:K.In base
 glob:base.Ns a0 mg
 blt:∃mb,base.Ns iN mb/\∀x:Str,x≠"__name__"->mb x=eL x
 nolimit:base.NoLimit
structure Cx where
 prog:Program
 w:World
 K:aa
 mg:Str->Option Value
 base:Heap
 A:Around
 N:List Str
 s₀:Shared
 H₀:Hp
 env:Env
 outer:List Env
 stack:List Env
 ex:List Addr
 fn:Str->Bool
 calm:Bool
 pn:List (Addr×Obj)
 xe:Value->Shared->Prop
noncomputable def frs(l:List Env):List Addr:=l.filterMap (·.frame)
noncomputable abbrev Cx.fs(X:Cx):List Addr:=frs X.outer
noncomputable def Vis(sc:Scope)(x:Str):Prop:=sc.names.lookup x=some .local\/sc.names.lookup x=some .cell\/sc.names.lookup x=some .free
noncomputable def Loc(sc:Scope)(x:Str):Prop:=sc.names.lookup x=some .local\/sc.names.lookup x=some .cell
noncomputable def Look(env:Env)(h:Heap)(m:Str->Option Value)(x:Str)(u:Value):Prop:=
 (env.kindOf x=some .local/\m x=some u)\/((env.kindOf x=some .cell\/env.kindOf x=some .free)/\∃c,env.cells.lookup x=some c/\h.IsCell c (some u))
structure Cx.Ok(X:Cx):Prop where
 mod:Mod X.K X.mg X.base
 kind:X.env.scope.kind=.function
 glob:X.env.globals=a0
 blt:X.env.builtins=iN
 above:X.s₀.heap.objs.size<=X.env.locals
 inj:∀x y c,X.env.cells.lookup x=some c->X.env.cells.lookup y=some c->x=y
 has:∀x,(X.env.kindOf x=some .cell\/X.env.kindOf x=some .free)->∃c,X.env.cells.lookup x=some c
 cab:∀x c,X.fn x=true->X.env.cells.lookup x=some c->X.s₀.heap.objs.size<=c
 hd:X.calm=true->X.A.handled=none
 frames:X.A.frames=some X.stack
 stk:X.stack=X.outer\/(X.stack=X.env::X.outer/\X.env.frame=some X.env.locals)
 exf:∀b∈X.ex,b≠X.env.locals/\∀x c,X.env.cells.lookup x=some c->c≠b
 bs:∀b o,X.base.get? b=some o->X.s₀.heap.get? b=some o/\X.H₀ b=none
 bsz:X.base.objs.size<=X.s₀.heap.objs.size
 noex:∀b o,X.base.get? b=some o->b∉X.ex
 exfs:∀b∈X.ex,b∉X.fs
 ou:X.s₀.heap.FunFrames X.base X.outer
 frf:∀b∈X.fs,X.H₀ b=none
structure Inv(X:Cx)(pins:List (Addr×Obj))(σ:List (Option V))(H:Hp)(s:Shared):Prop where
 ok:X.Ok
 os:s.os=X.s₀.os
 bare:jw s.gens
 base:Un X.fs X.ex X.H₀ H X.s₀.heap s.heap
 loc:∃m,s.heap.Ns X.env.locals m/\∀(i:Nat)(x:Str)(v:V),X.N[i]? =some x->σ[i]? =some (some v)->Vis X.env.scope x->∃u,RelV v u/\Look X.env s.heap m x u
 cell:∀x c,X.env.cells.lookup x=some c->∃v,s.heap.IsCell c v
 free:H X.env.locals=none
 freeC:∀x c,X.env.cells.lookup x=some c->H c=none
 pin:∀p∈X.pn++pins,s.heap.get? p.1=some p.2/\H p.1=none/\p.1≠X.env.locals/\p.1∉X.fs/\∀v,p.2.data≠.cell v
 hok:HOk X.prog X.w H s.heap
 len:σ.length=X.N.length
section
variable {X:Cx}{pins:List (Addr×Obj)}{σ:List (Option V)}{H H':Hp}{s:Shared}{h':Heap}
theorem Cx.Ok.nofr(ok:X.Ok){b:Addr}{o:Obj}(e:X.base.get? b=some o):b∉X.fs:=fun hb=>by
 have :=(ok.ou.mem hb).1
 rw[e]at this;cases this
theorem Inv.bs(I:Inv X pins σ H s):∀b o,X.base.get? b=some o->s.heap.get? b=some o/\H b=none:=fun b o e=>
 ⟨I.base.keep b o (I.ok.bs b o e).1 (I.ok.bs b o e).2 (I.ok.nofr e) (I.ok.noex b o e),I.base.free b o (I.ok.bs b o e).1 (I.ok.bs b o e).2 (I.ok.noex b o e)⟩
theorem Inv.bk(I:Inv X pins σ H s):∀b o,X.base.get? b=some o->s.heap.get? b=some o:=fun b o e=>(I.bs b o e).1
theorem Inv.mod(I:Inv X pins σ H s):Mod X.K X.mg X.base:=I.ok.mod
theorem Inv.kIn(I:Inv X pins σ H s):X.K.In s.heap:=I.ok.mod.kin.keeps I.bk
theorem Inv.lt(I:Inv X pins σ H s):X.env.locals<s.heap.objs.size:=let⟨_,hn,_⟩:=I.loc;hn.lt
theorem Inv.sz(I:Inv X pins σ H s):X.s₀.heap.objs.size<=s.heap.objs.size:=au I.ok.above (o7 I.lt)
theorem Inv.nofs(I:Inv X pins σ H s){a:Addr}(h:s.heap.objs.size<=a):a∉X.fs:=fun hb=>by
 obtain⟨_,o,ho,_⟩:=I.ok.ou.mem hb;exact absurd (aQ (ay ho) (au I.sz h)) (da _)
theorem Inv.cne(I:Inv X pins σ H s):∀x c,X.env.cells.lookup x=some c->c≠X.env.locals:=fun x c e z=>by
 obtain⟨v,o,ho,hd⟩:=I.cell x c e;obtain⟨m,⟨o',es,ep,ho',hd',_⟩,_⟩:=I.loc;rw[z,ho']at ho;cases ho;rw[hd']at hd;cases hd
theorem Inv.ou(I:Inv X pins σ H s):s.heap.FunFrames X.base X.outer:=by
 have all:∀(l:List Env),(∀b∈frs l,b∈X.fs)->X.s₀.heap.FunFrames X.base l->s.heap.FunFrames X.base l:=by
  intro l
  induction l with
  |nil=>intro _ _;trivial
  |cons env r ih=>
   intro hs hl;obtain⟨hk,⟨L,o,hf,hn,ho,hd⟩,hr⟩:=hl;have hL:L∈X.fs:=hs L (by unfold frs;rw[la,hf];exact aq);obtain⟨sl,e⟩:=I.base.slot L o ho (I.ok.frf L hL) hL fun z=>I.ok.exfs L z hL;exact⟨hk,⟨L,_,hf,hn,e,hd⟩,ih (fun b hb=>hs b (by unfold frs;rw[la,hf];exact aw _ hb)) hr⟩
 exact all X.outer (fun _ hb=>hb) I.ok.ou
theorem Inv.stack(I:Inv X pins σ H s):s.heap.FunFrames X.base X.stack:=by
 rcases I.ok.stk with e|⟨e,hf⟩
 ·rw[e];exact I.ou
 ·rw[e]
  obtain⟨m,hn,_⟩:=I.loc;refine .cons (by rw[I.ok.kind];decide) hf hn ?_ I.ou;exact ki (au I.ok.bsz I.ok.above)
theorem Inv.uP(I:Inv X pins σ H s):∀b∈frs X.stack,b∈X.env.locals::X.fs:=fun b hb=>by
 rcases I.ok.stk with e|⟨e,hf⟩
 ·rw[e]at hb;exact aw _ hb
 ·rw[e]at hb
  unfold frs at hb;rw[la,hf]at hb;exact hb
theorem Inv.qD(I:Inv X pins σ H s):∀b∈frs X.stack,H b=none:=fun b hb=>by
 rcases aA.mp (I.uP b hb)with e|hb
 ·rw[e];exact I.free
 ·obtain⟨_,o,ho,_⟩:=I.ok.ou.mem hb
  exact I.base.free b o ho (I.ok.frf b hb) fun z=>I.ok.exfs b z hb
theorem Inv.step{g':Array se}{t':Nat}{d':Drawn}{ch:List Addr}(I:Inv X pins σ H s)
  (hch:∀b∈ch,(b∈X.ex\/X.s₀.heap.objs.size<=b)/\b≠X.env.locals/\(∀x c,X.env.cells.lookup x=some c->c≠b)/\∀p∈X.pn++pins,p.1≠b)
  (keep:∀b o,b≠X.env.locals->b∉X.fs->b∉ch->s.heap.get? b=some o->H b=none->h'.get? b=some o)
  (slot:∀b o,b≠X.env.locals->b∈X.fs->b∉ch->s.heap.get? b=some o->H b=none->∃sl,h'.get? b=some {o with slots:=sl}) (free:∀b o,b∉ch->s.heap.get? b=some o->H b=none->H' b=none)
  (there:∀b o,b∉ch->s.heap.get? b=some o->∃o',h'.get? b=some o')
  (tups:∀b xs,H b=some (.tup xs)->H' b=some (.tup xs)) (frzs:∀b o u,H b=some (.frz o u)->H' b=some (.frz o u)) (tbls:∀b ps,H b=some (.tbl ps)->∃more,H' b=some (.tbl (ps++more)))
  (ns:∀m,s.heap.Ns X.env.locals m->h'.Ns X.env.locals m) (hok:HOk X.prog X.w H' h') (hg:jw g'):
  Inv X pins σ H' {s with heap:=h',gens:=g',drawn:=d',toks:=t'}:=by
 have neL:∀b o,X.s₀.heap.get? b=some o->b≠X.env.locals:=fun b o e=>aW (aQ (ay e) I.ok.above);have neC:∀b o,X.s₀.heap.get? b=some o->b∉X.ex->b∉ch:=fun b o e hx hb=>by
  rcases(hch b hb).1 with z|z
  ·exact hx z
  ·exact absurd (aQ (ay e) z) (da _)
 have cellK:∀x c,X.env.cells.lookup x=some c->∀v,s.heap.IsCell c v->h'.IsCell c v:=fun x c e v ⟨o,ho,hd⟩=>by
  have nch:c∉ch:=fun z=>(hch c z).2.2.1 x c e rfl;by_cases hc:c∈X.fs
  ·obtain⟨sl,q⟩:=slot c o (I.cne x c e) hc nch ho (I.freeC x c e)
   exact⟨_,q,hd⟩
  ·exact⟨o,keep c o (I.cne x c e) hc nch ho (I.freeC x c e),hd⟩
 refine⟨I.ok,I.os,hg,⟨fun b o e n hb hx=>?_,fun b o e n hb hx=>?_,fun b o e n hx=>?_,fun b o e hx=>?_,fun b xs e=>tups b xs (I.base.tups b xs e),fun b o xs e=>frzs b o xs (I.base.frzs b o xs e),fun b ps e=>?_⟩,?_,fun x c e=>?_,?_,fun x c e=>?_,fun p hp=>?_,hok,I.len⟩
 ·exact keep b o (neL b o e) hb (neC b o e hx) (I.base.keep b o e n hb hx) (I.base.free b o e n hx)
 ·obtain⟨sl,e1⟩:=I.base.slot b o e n hb hx
  obtain⟨sl',e2⟩:=slot b _ (neL b o e) hb (neC b o e hx) e1 (I.base.free b o e n hx);exact⟨sl',e2⟩
 ·obtain⟨o',e1⟩:=I.base.there b o e hx
  exact free b o' (neC b o e hx) e1 (I.base.free b o e n hx)
 ·obtain⟨o',e1⟩:=I.base.there b o e hx
  exact there b o' (neC b o e hx) e1
 ·obtain⟨m1,e1⟩:=I.base.tbls b ps e
  obtain⟨m2,e2⟩:=tbls b _ e1;exact⟨m1++m2,by rw[e2,Array.append_assoc]⟩
 ·obtain⟨m,hn,hl⟩:=I.loc
  refine⟨m,ns m hn,fun i x v e1 e2 e3=>?_⟩;obtain⟨u,r,l⟩:=hl i x v e1 e2 e3;refine⟨u,r,?_⟩;rcases l with l|⟨k,c,e,z⟩
  ·exact .inl l
  ·exact .inr ⟨k,c,e,cellK x c e _ z⟩
 ·obtain⟨v,z⟩:=I.cell x c e
  exact⟨v,cellK x c e v z⟩
 ·obtain⟨m,⟨o,_,_,ho,_⟩,_⟩:=I.loc
  exact free _ o (fun z=>(hch _ z).2.1 rfl) ho I.free
 ·obtain⟨v,o,ho,hd⟩:=I.cell x c e
  exact free c o (fun z=>(hch c z).2.2.1 x c e rfl) ho (I.freeC x c e)
 ·obtain⟨e,n,ne,nf,d⟩:=I.pin p hp
  have nch:p.1∉ch:=fun z=>(hch p.1 z).2.2.2 p hp rfl;exact⟨keep p.1 p.2 ne nf nch e n,free p.1 p.2 nch e n,ne,nf,d⟩
theorem Inv.un{t':Nat}(I:Inv X pins σ H s)(u:Un X.fs [] H H' s.heap h')(hok:HOk X.prog X.w H' h'):Inv X pins σ H' {s with heap:=h',toks:=t'}:=by
 obtain⟨m,⟨o,es,ep,ho,r⟩,_⟩:=id I.loc;obtain⟨sl,hL⟩:=u.any ho I.free (by simp);exact I.step (g':=s.gens) (d':=s.drawn) (ch:=[]) (fun _ z=>nomatch z) (fun b o _ hb _ e n=>u.keep b o e n hb (by simp)) (fun b o _ hb _ e n=>u.slot b o e n hb (by simp)) (fun b o _ e n=>u.free b o e n (by simp)) (fun b o _ e=>u.there b o e (by simp)) u.tups u.frzs u.tbls (fun m' hm=>by
  obtain⟨o',es',ep',ho',r'⟩:=hm;rw[ho]at ho';cases ho';exact⟨_,es',ep',hL,r'⟩) hok I.bare
theorem Inv.call{g':Array se}{t':Nat}{d':Drawn}{ch:List Addr}(I:Inv X pins σ H s)(u:Un (frs X.stack) ch H H' s.heap h')(hok:HOk X.prog X.w H' h')(hg:jw g')
  (hch:∀b∈ch,(b∈X.ex\/X.s₀.heap.objs.size<=b)/\b≠X.env.locals/\(∀x c,X.env.cells.lookup x=some c->c≠b)/\∀p∈X.pn++pins,p.1≠b):
  Inv X pins σ H' {s with heap:=h',gens:=g',drawn:=d',toks:=t'}:=by
 obtain⟨m,⟨o,es,ep,ho,r⟩,_⟩:=id I.loc;obtain⟨sl,hL⟩:=u.any ho I.free fun z=>(hch _ z).2.1 rfl;exact I.step (ch:=ch) hch (fun b o hL hb hc e n=>u.keep b o e n (fun z=>(aA.mp (I.uP b z)).elim hL hb) hc) (fun b o _ _ hc e n=>u.any e n hc) (fun b o hc e n=>u.free b o e n hc) (fun b o hc e=>u.there b o e hc) u.tups u.frzs u.tbls (fun m' hm=>by
  obtain⟨o',es',ep',ho',r'⟩:=hm;rw[ho]at ho';cases ho';exact⟨_,es',ep',hL,r'⟩) hok hg
theorem Inv.turned{t':Nat}{it:Addr}(I:Inv X pins σ H s)(k:∀b o,b≠it->s.heap.get? b=some o->h'.get? b=some o)(hn:H it=none)(hL:it≠X.env.locals)
  (h1:it∈X.ex\/X.s₀.heap.objs.size<=it)(h2:∀x c,X.env.cells.lookup x=some c->c≠it)(h3:∀p∈X.pn++pins,p.1≠it):Inv X pins σ H {s with heap:=h',toks:=t'}:=by
 have nit:∀b u,H b=some u->b≠it:=fun b u e z=>by rw[z,hn]at e;cases e
 refine I.step (g':=s.gens) (d':=s.drawn) (ch:=[it]) (fun b hb=>?_) (fun b o _ _ hc e _=>k b o (fun z=>hc (by simp[z])) e) (fun b o _ _ hc e _=>⟨o.slots,k b o (fun z=>hc (by simp[z])) e⟩) (fun _ _ _ _ n=>n)
  (fun b o hc e=>⟨o,k b o (fun z=>hc (by simp[z])) e⟩) (fun _ _ e=>e) (fun _ _ _ e=>e) (fun b ps e=>⟨#[],by rw[e];simp⟩) (fun m hm=>?_) (fun b u e=>?_) I.bare
 ·have e:b=it:=by simpa using hb
  subst e;exact⟨h1,hL,h2,h3⟩
 ·obtain⟨o,es,ep,ho,r⟩:=hm
  exact⟨o,es,ep,k _ o (bO hL) ho,r⟩
 ·refine(I.hok b u e).mC (fun c v hc q=>k c v ?_ q) (fun _ q=>q) fun _ _ q=>q
  rcases hc with z|z
  ·rw[z];exact nit b u e
  ·exact nit c _ z
theorem Inv.tok(I:Inv X pins σ H s)(t:Nat):Inv X pins σ H {s with toks:=t}:=I.un (h':=s.heap) (t':=t) Un.refl I.hok
theorem Inv.kept{t':Nat}(I:Inv X pins σ H s)(k:∀b u,s.heap.get? b=some u->h'.get? b=some u):Inv X pins σ H {s with heap:=h',toks:=t'}:=I.un (Un.kept k) (I.hok.kept k)
theorem Inv.laid{a:Addr}{o:HO}{t':Nat}(I:Inv X pins σ H s)(k:∀b u,s.heap.get? b=some u->h'.get? b=some u)(hp:s.heap.objs.size<=a)(new:cW X.prog X.w (upd H a o) h' a o):
  Inv X pins σ (upd H a o) {s with heap:=h',toks:=t'}:=I.un (Un.laid k hp (I.hok.fresh hp)) (I.hok.laid k hp new)
theorem Inv.write{x e:Addr}{o:HO}{t':Nat}(I:Inv X pins σ H s)(mu:Mut (H x))(he:e=x\/H e=some (.own x))(k:∀b u,b≠e->s.heap.get? b=some u->h'.get? b=some u)(heo:∃u,h'.get? e=some u)
  (new:cW X.prog X.w (upd H x o) h' x o):Inv X pins σ (upd H x o) {s with heap:=h',toks:=t'}:=I.un (Un.write mu he k heo) (I.hok.write mu he k heo new)
theorem Inv.qS{pins':List (Addr×Obj)}(I:Inv X pins σ H s)(h:∀p∈pins',s.heap.get? p.1=some p.2/\H p.1=none/\p.1≠X.env.locals/\p.1∉X.fs/\∀v,p.2.data≠.cell v):Inv X pins' σ H s:=
 ⟨I.ok,I.os,I.bare,I.base,I.loc,I.cell,I.free,I.freeC,fun p hp=>(bJ.mp hp).elim (fun z=>I.pin p (bG _ z)) (h p),I.hok,I.len⟩
theorem nL{N:List Str}(hN:N.Nodup){i j:Nat}{x:Str}(a:N[i]? =some x)(b:N[j]? =some x):i=j:=by
 obtain⟨h1,e1⟩:=aE.mp a;obtain⟨h2,e2⟩:=aE.mp b;exact(List.getElem_inj hN).mp (e1.trans e2.symm)
theorem xl{M:Model}{A:Around}{E:Value->Shared->Prop}{i:Nat}{x:Str}{v:V}{u:Value}{Q:Unit->Shared->Prop}(I:Inv X pins σ H s)(hN:X.N.Nodup)(hi:X.N[i]? =some x)(hx:Loc X.env.scope x)(r:RelV v u)
  (h:∀s',Inv X pins (σ.set i (some v)) H s'->(∃a,gJ a s.heap s'.heap/\(a=X.env.locals\/X.env.cells.lookup x=some a))->Q () s')(hf:X.fn x=true\/X.env.scope.names.lookup x=some .local:=by first |exact .inl rfl|exact .inr rfl|assumption):wpAny M A (storeName X.env x u) Q E s:=by
 obtain⟨m,hn,hl⟩:=id I.loc;have hcls:(X.env.scope.kind== .class||(X.env.scope.kind== .module&&X.env.locals != X.env.globals))=false:=by rw[I.ok.kind];rfl
 have hiσ:i<σ.length:=by rw[I.len];exact(aE.mp hi).1
 have cne:=I.cne;have tracked:∀{a:Addr}{h':Heap},(∃o,s.heap.get? a=some o/\H a=none)->gJ a s.heap h'->HOk X.prog X.w H h':=fun{a h'} ha hs b ob e=>by
  obtain⟨_,_,hfree⟩:=ha;refine(I.hok b ob e).mC (fun c w' hc q=>(hs.2 c ?_).trans q) (fun _ q=>q) fun _ _ q=>q;rintro rfl;rcases hc with rfl|hc
  ·rw[hfree]at e;cases e
  ·rw[hfree]at hc;cases hc
 rcases hx with hk|hk
 ·refine wpAny_storeName_local hk hn (fun h' hn' hs=>?_) hcls
  obtain⟨oL,_,_,hoL,_⟩:=id hn;refine h _ ⟨I.ok,I.os,I.bare,⟨fun b o e n hb hx=>?_,fun b o e n hb hx=>?_,I.base.free,fun b o e hx=>?_,I.base.tups,I.base.frzs,I.base.tbls⟩,⟨_,hn',fun j y v' e1 e2 e3=>?_⟩,fun y c e=>?_,I.free,I.freeC,fun p hp=>?_,tracked ⟨oL,hoL,I.free⟩ hs,by simpa using I.len⟩ ⟨_,hs,.inl rfl⟩
  ·exact(hs.2 b (aW (aQ (ay e) I.ok.above))).trans (I.base.keep b o e n hb hx)
  ·obtain⟨sl,e1⟩:=I.base.slot b o e n hb hx
   exact⟨sl,(hs.2 b (aW (aQ (ay e) I.ok.above))).trans e1⟩
  ·obtain⟨o',e1⟩:=I.base.there b o e hx
   exact⟨o',(hs.2 b (aW (aQ (ay e) I.ok.above))).trans e1⟩
  ·by_cases hj:j=i
   ·subst hj
    rw[hi]at e1;cases e1;rw[w4 hiσ]at e2;cases e2;exact⟨u,r,.inl ⟨hk,by simp⟩⟩
   ·rw[kh (bO hj)]at e2
    obtain⟨u',r',q⟩:=hl j y v' e1 e2 e3;refine⟨u',r',?_⟩;rcases q with⟨k,e⟩ |⟨k,c,e,z⟩
    ·refine .inl ⟨k,?_⟩
     have :y≠x:=fun e=>hj (nL hN e1 (e▸hi));simp[this,e]
    ·exact .inr ⟨k,c,e,z.sameBut hs (cne y c e)⟩
  ·obtain⟨w',z⟩:=I.cell y c e
   exact⟨w',z.sameBut hs (cne y c e)⟩
  ·obtain⟨e,n,ne,nf,d⟩:=I.pin p hp
   exact⟨(hs.2 p.1 ne).trans e,n,ne,nf,d⟩
 ·have hfn:X.fn x=true:=by
   rcases hf with z|z
   ·exact z
   ·rw[z]at hk;cases hk
  obtain⟨c,hc⟩:=I.ok.has x (.inl hk);obtain⟨w',z⟩:=I.cell x c hc;refine wpAny_storeName_cell I.ok.kind hk hc z (fun h' hc' hs=>?_);obtain⟨oc,hoc,hocd⟩:=id z;refine h {s with heap:=h'} ⟨I.ok,I.os,I.bare,⟨fun b o e n hb hx=>?_,fun b o e n hb hx=>?_,I.base.free,fun b o e hx=>?_,I.base.tups,I.base.frzs,I.base.tbls⟩,⟨m,hn.sameBut hs (bO (cne x c hc)),fun j y v' e1 e2 e3=>?_⟩,fun y c' e=>?_,I.free,I.freeC,fun p hp=>?_,tracked ⟨oc,hoc,I.freeC x c hc⟩ hs,by simpa using I.len⟩ ⟨c,hs,.inr hc⟩
  ·exact(hs.2 b (aW (aQ (ay e) (I.ok.cab x c hfn hc)))).trans (I.base.keep b o e n hb hx)
  ·obtain⟨sl,e1⟩:=I.base.slot b o e n hb hx
   exact⟨sl,(hs.2 b (aW (aQ (ay e) (I.ok.cab x c hfn hc)))).trans e1⟩
  ·obtain⟨o',e1⟩:=I.base.there b o e hx
   exact⟨o',(hs.2 b (aW (aQ (ay e) (I.ok.cab x c hfn hc)))).trans e1⟩
  ·by_cases hj:j=i
   ·subst hj
    rw[hi]at e1;cases e1;rw[w4 hiσ]at e2;cases e2;exact⟨u,r,.inr ⟨.inl hk,c,hc,hc'⟩⟩
   ·rw[kh (bO hj)]at e2
    obtain⟨u',r',q⟩:=hl j y v' e1 e2 e3;refine⟨u',r',?_⟩;rcases q with q|⟨k,c',e,z'⟩
    ·exact .inl q
    ·refine .inr ⟨k,c',e,z'.sameBut hs ?_⟩
     rintro rfl;exact hj (nL hN e1 (I.ok.inj _ _ _ e hc▸hi))
  ·by_cases hcc:c'=c
   ·subst hcc;exact⟨_,hc'⟩
   ·obtain⟨w2,z2⟩:=I.cell y c' e
    exact⟨w2,z2.sameBut hs hcc⟩
  ·obtain⟨e,n,ne,nf,d⟩:=I.pin p hp
   refine⟨(hs.2 p.1 ?_).trans e,n,ne,nf,d⟩;intro q;rw[q,hoc]at e;have q':oc=p.2:=aX e;exact d w' (by rw[<-q'];exact hocd)
theorem m9{M:Model}{A:Around}{E:Value->Shared->Prop}{i:Nat}{x:Str}{v:V}{u:Value}{Q:Unit->Shared->Prop}(I:Inv X pins σ H s)(hN:X.N.Nodup)(hi:X.N[i]? =some x)(hx:Loc X.env.scope x)(r:RelV v u)
  (h:∀s',Inv X pins (σ.set i (some v)) H s'->Q () s')(hf:X.fn x=true\/X.env.scope.names.lookup x=some .local:=by first |exact .inl rfl|exact .inr rfl|assumption):wpAny M A (storeName X.env x u) Q E s:=
 xl I hN hi hx r (fun s' I' _=>h s' I') hf
theorem Inv.call'{s':Shared}{ch:List Addr}(I:Inv X pins σ H s)(ho:s'.os=s.os)(u:Un (frs X.stack) ch H H' s.heap s'.heap)(hok:HOk X.prog X.w H' s'.heap)(hg:jw s'.gens)
  (hch:∀b∈ch,(b∈X.ex\/X.s₀.heap.objs.size<=b)/\b≠X.env.locals/\(∀x c,X.env.cells.lookup x=some c->c≠b)/\∀p∈X.pn++pins,p.1≠b):Inv X pins σ H' s':=by
 obtain⟨h',g',d',t',o'⟩:=s';have e:o'=s.os:=ho;subst e;exact I.call (g':=g') (t':=t') (d':=d') u hok hg hch
end
noncomputable abbrev XK:=Value->Option Addr->Hp->Prop
noncomputable abbrev St:=List (Option V)
noncomputable abbrev VK:=V->Hp->Prop
noncomputable abbrev TE:=St->Hp->VK->Prop
noncomputable abbrev TT:=St->Hp->(Bool->Hp->Prop)->Prop
noncomputable abbrev TA:=St->Hp->(List V->Hp->Prop)->Prop
structure Ends where
 nx:St->Hp->Prop
 rt:VK
 bk:St->Hp->Prop:=fun _ _=>False
 ct:St->Hp->Prop:=fun _ _=>False
noncomputable abbrev TS:=Ends->St->Hp->Prop
noncomputable def EP(X:Cx)(pins:List (Addr×Obj))(σ:St)(Q:VK)(u:Value)(s':Shared):Prop:=∃v H',Inv X pins σ H' s'/\RelV v u/\Q v H'
noncomputable def TP(X:Cx)(pins:List (Addr×Obj))(σ:St)(Q:Bool->Hp->Prop)(b:Bool)(s':Shared):Prop:=∃H',Inv X pins σ H' s'/\Q b H'
noncomputable def AP(X:Cx)(pins:List (Addr×Obj))(σ:St)(Q:List V->Hp->Prop)(us:List Value)(s':Shared):Prop:=∃vs H',Inv X pins σ H' s'/\bp vs us/\Q vs H'
noncomputable def SP(X:Cx)(pins:List (Addr×Obj))(D:Ends)(f:Flow)(s':Shared):Prop:=
 match f with
 |.next=>∃σ' H',Inv X pins σ' H' s'/\D.nx σ' H'
 |.brk=>∃σ' H',Inv X pins σ' H' s'/\D.bk σ' H'
 |.cont=>∃σ' H',Inv X pins σ' H' s'/\D.ct σ' H'
 |.ret u=>∃v σ' H',Inv X pins σ' H' s'/\RelV v u/\D.rt v H'
noncomputable def PE(X:Cx)(e:Expr)(t:TE):Prop:=
 ∀(pins:List (Addr×Obj))(s:Shared)(σ:St)(H:Hp)(Q:VK),Inv X pins σ H s->t σ H Q->wpAny (model X.prog X.w) X.A (eval e X.env) (EP X pins σ Q) X.xe s
noncomputable def PT(X:Cx)(e:Expr)(t:TT):Prop:=
 ∀(pins:List (Addr×Obj))(s:Shared)(σ:St)(H:Hp)(Q:Bool->Hp->Prop),Inv X pins σ H s->t σ H Q->wpAny (model X.prog X.w) X.A (isTrue e X.env (eval e X.env)) (TP X pins σ Q) X.xe s
noncomputable def PW(X:Cx)(e:Expr)(t:TT):Prop:=
 ∀(whole:Sem Value)(pins:List (Addr×Obj))(s:Shared)(σ:St)(H:Hp)(Q:Bool->Hp->Prop),Inv X pins σ H s->t σ H Q->wpAny (model X.prog X.w) X.A (isTrue e X.env whole) (TP X pins σ Q) X.xe s
theorem PW.pt{X:Cx}{e:Expr}{t:TT}(h:PW X e t):PT X e t:=h _
noncomputable def PA(X:Cx)(es:List Expr)(t:TA):Prop:=
 ∀(pos:Pos)(pins:List (Addr×Obj))(s:Shared)(σ:St)(H:Hp)(Q:List V->Hp->Prop),Inv X pins σ H s->t σ H Q->wpAny (model X.prog X.w) X.A (spliced (backTo pos (aB es X.env))) (AP X pins σ Q) X.xe s
noncomputable def PS(X:Cx)(st:Stmt)(t:TS):Prop:=
 ∀(pins:List (Addr×Obj))(s:Shared)(σ:St)(H:Hp)(D:Ends),Inv X pins σ H s->t D σ H->wpAny (model X.prog X.w) X.A (exec st X.env) (SP X pins D) X.xe s
noncomputable def PSs(X:Cx)(st:List Stmt)(t:TS):Prop:=
 ∀(pins:List (Addr×Obj))(s:Shared)(σ:St)(H:Hp)(D:Ends),Inv X pins σ H s->t D σ H->wpAny (model X.prog X.w) X.A (execs st X.env) (SP X pins D) X.xe s
theorem thn{α:Type}{t:Sem α}{Q Q':α->Shared->Prop}{M:Model}{A:Around}{E:Value->Shared->Prop}{s:Shared}(h:wpAny M A t Q E s)(hQ:∀a s,Q a s->Q' a s):wpAny M A t Q' E s:=bM h hQ fun _ _ x=>x
section
variable {X:Cx}
noncomputable def qC(i:Nat):TE:=fun σ H Q=>∃v,σ[i]? =some (some v)/\Q v H
noncomputable def tC(v:V):TE:=fun _ H Q=>Q v H
theorem u7{i:Nat}{x:Str}{pos:Pos}(hN:X.N[i]? =some x)(hv:Vis X.env.scope x)(hd:(x==("__debug__":Str))=false:=by decide) (hcd:(x==("__classdict__":Str))=false:=by decide):PE X (.Name x pos) (qC i):=by
 intro pins s σ H Q I h;obtain⟨v,e,h⟩:=h;obtain⟨m,hn,hl⟩:=I.loc;obtain⟨u,r,l⟩:=hl i x v hN e hv;have fin:EP X pins σ Q u s:=⟨v,H,I,r,h⟩;rcases l with⟨hk,hm⟩ |⟨hk,c,hc,hcell⟩
 ·exact kU (wpAny_loadName_local I.ok.kind hk hn hm fin) hd
 ·rcases hk with hk|hk
  ·exact kU (wpAny_loadName_cell I.ok.kind hk hc hcell fin) hd
  ·exact kU (wpAny_loadName_free I.ok.kind hk hc hcell fin hcd) hd
theorem zQ{i j pos}:PE X (.Constant (.int i) j pos) (tC (.int i)):=fun _ _ _ H _ I h=>wpAny_Constant_int ⟨.int i,H,I.tok _,⟨_,rfl⟩,h⟩
theorem pe_bl{b j pos}:PE X (.Constant (.bool b) j pos) (tC (.bl b)):=fun _ _ _ H _ I h=>Constant_bool ⟨.bl b,H,I,rfl,h⟩
theorem zO{j pos}:PE X (.Constant .none j pos) (tC .non):=fun _ _ _ H _ I h=>Constant_none ⟨.non,H,I,rfl,h⟩
theorem nB{x j pos}:PE X (.Constant (.str x) j pos) (tC (.str x)):=fun _ _ _ H _ I h=>lS ⟨.str x,H,I.tok _,⟨_,rfl⟩,h⟩
noncomputable def Gl(X:Cx)(x:Str):Prop:=X.env.kindOf x=some .globalImplicit
theorem gD{E:Value->Shared->Prop}{pins:List (Addr×Obj)}{s:Shared}{σ:St}{H:Hp}{x:Str}{u:Value}{pos:Pos}{Q:Value->Shared->Prop}(I:Inv X pins σ H s)(hg:Gl X x)(hm:X.mg x=some u)(h:Q u s)
  (hd:(x==("__debug__":Str))=false:=by decide):wpAny (model X.prog X.w) X.A (eval (.Name x pos) X.env) Q E s:=
 sf I.ok.kind hg (Calls.loadGlobal_global (by rw[I.ok.glob];exact I.mod.glob.keeps I.bk) hm h) hd
theorem lE{E:Value->Shared->Prop}{pins:List (Addr×Obj)}{s:Shared}{σ:St}{H:Hp}{x:Str}{u:Value}{pos:Pos}{Q:Value->Shared->Prop}(I:Inv X pins σ H s)(hg:Gl X x)(hm:X.mg x=none)(hv:eL x=some u)(h:Q u s)
  (hn:x≠"__name__":=by decide) (hd:(x==("__debug__":Str))=false:=by decide):wpAny (model X.prog X.w) X.A (eval (.Name x pos) X.env) Q E s:=by
 obtain⟨mb,h1,h2⟩:=I.mod.blt;exact sf I.ok.kind hg (Calls.loadGlobal_builtin (by rw[I.ok.glob];exact I.mod.glob.keeps I.bk) hm (by rw[I.ok.blt];exact h1.keeps I.bk) ((h2 x hn).trans hv) h) hd
theorem qV{x:Str}{v:V}{u:Value}{pos:Pos}(hg:Gl X x)(hm:X.mg x=some u)(r:RelV v u)(hd:(x==("__debug__":Str))=false:=by decide):PE X (.Name x pos) (tC v):=
 fun _ _ _ H _ I h=>gD I hg hm ⟨v,H,I,r,h⟩ hd
theorem wm{x:Str}{v:V}{u:Value}{pos:Pos}(hg:Gl X x)(hm:X.mg x=none)(hv:eL x=some u)(r:RelV v u)(hn:x≠"__name__":=by decide) (hd:(x==("__debug__":Str))=false:=by decide):PE X (.Name x pos) (tC v):=
 fun _ _ _ H _ I h=>lE I hg hm hv ⟨v,H,I,r,h⟩ hn hd
variable {a b:Expr}{ta tb:TE}{pos:Pos}
variable {tA tB':TT}{rest:List Expr}
noncomputable def tAnd(t u:TT):TT:=fun σ H Q=>t σ H fun c H1=>if c=true then u σ H1 Q else Q false H1
noncomputable def tOr(t u:TT):TT:=fun σ H Q=>t σ H fun c H1=>if c=true then Q true H1 else u σ H1 Q
noncomputable def tNot(t:TT):TT:=fun σ H Q=>t σ H fun c H1=>Q (!c) H1
theorem wb(ha:PT X a tA):PW X (.BoolOp .And [a] pos) tA:=by
 intro wh pins s σ H Q I h;refine isTrue_and (thn (ha pins s σ H Q I h) fun c s1 e=>?_);cases c with
 |true=>exact isTrue_and_nil e
 |false=>exact e
theorem zB(ha:PT X a tA):PW X (.BoolOp .Or [a] pos) tA:=by
 intro wh pins s σ H Q I h;refine isTrue_or (thn (ha pins s σ H Q I h) fun c s1 e=>?_);cases c with
 |false=>exact isTrue_or_nil e
 |true=>exact e
theorem qP(ha:PT X a tA)(hb:PW X (.BoolOp .And (b::rest) pos) tB'):PW X (.BoolOp .And (a::b::rest) pos) (tAnd tA tB'):=by
 intro wh pins s σ H Q I h;refine isTrue_and (thn (ha pins s σ H _ I h) fun c s1 ⟨H1,I1,q1⟩=>?_);cases c with
 |true=>exact hb wh pins s1 σ H1 Q I1 q1
 |false=>exact⟨H1,I1,q1⟩
theorem wa(ha:PT X a tA)(hb:PW X (.BoolOp .Or (b::rest) pos) tB'):PW X (.BoolOp .Or (a::b::rest) pos) (tOr tA tB'):=by
 intro wh pins s σ H Q I h;refine isTrue_or (thn (ha pins s σ H _ I h) fun c s1 ⟨H1,I1,q1⟩=>?_);cases c with
 |true=>exact⟨H1,I1,q1⟩
 |false=>exact hb wh pins s1 σ H1 Q I1 q1
theorem pt_not(ha:PT X a tA):PT X (.UnaryOp .Not a pos) (tNot tA):=by
 intro pins s σ H Q I h;exact isTrue_not (ha pins s σ H (fun c H1=>Q (!c) H1) I h)
noncomputable def yU(ta tb:TE):TE:=fun σ H Q=>ta σ H fun x H1=>∃c,x=.bl c/\if c=true then tb σ H1 Q else Q (.bl false) H1
noncomputable def tOrV(ta tb:TE):TE:=fun σ H Q=>ta σ H fun x H1=>∃c,x=.bl c/\if c=true then Q (.bl true) H1 else tb σ H1 Q
noncomputable def yQ(ta:TE):TE:=fun σ H Q=>ta σ H fun x H1=>∃c,x=.bl c/\Q (.bl (!c)) H1
theorem zN{op}{t:TE}(h:PE X a t):PE X (.BoolOp op [a] pos) t:=fun pins s σ H Q I hw=>BoolOp_one (h pins s σ H Q I hw)
theorem zU(ha:PE X a ta)(hb:PE X (.BoolOp .And (b::rest) pos) tb):PE X (.BoolOp .And (a::b::rest) pos) (yU ta tb):=by
 intro pins s σ H Q I h;refine BoolOp_and (thn (ha pins s σ H _ I h) fun v s1 ⟨x,H1,I1,r1,q1⟩=>?_);obtain⟨c,rfl,q1⟩:=q1;cases r1;refine cj ?_;cases c with
 |true=>exact hb pins s1 σ H1 Q I1 q1
 |false=>exact⟨.bl false,H1,I1,rfl,q1⟩
theorem pe_or(ha:PE X a ta)(hb:PE X (.BoolOp .Or (b::rest) pos) tb):PE X (.BoolOp .Or (a::b::rest) pos) (tOrV ta tb):=by
 intro pins s σ H Q I h;refine BoolOp_or (thn (ha pins s σ H _ I h) fun v s1 ⟨x,H1,I1,r1,q1⟩=>?_);obtain⟨c,rfl,q1⟩:=q1;cases r1;refine cj ?_;cases c with
 |false=>exact hb pins s1 σ H1 Q I1 q1
 |true=>exact⟨.bl true,H1,I1,rfl,q1⟩
theorem pe_not(ha:PE X a ta):PE X (.UnaryOp .Not a pos) (yQ ta):=by
 intro pins s σ H Q I h;refine UnaryOp_ (thn (ha pins s σ H _ I h) fun v s1 ⟨x,H1,I1,r1,q1⟩=>?_);obtain⟨c,rfl,q1⟩:=q1;cases r1;exact not_of (cj ⟨.bl (!c),H1,I1,rfl,q1⟩)
noncomputable def tIf(t:TT)(ta tb:TE):TE:=fun σ H Q=>t σ H fun c H1=>if c=true then ta σ H1 Q else tb σ H1 Q
theorem zR{c:Expr}(hc:PT X c tA)(ha:PE X a ta)(hb:PE X b tb):PE X (.IfExp c a b pos) (tIf tA ta tb):=by
 intro pins s σ H Q I h;refine wpAny_IfExp (thn (hc pins s σ H _ I h) fun d s1 ⟨H1,I1,q1⟩=>?_);cases d with
 |true=>exact ha pins s1 σ H1 Q I1 q1
 |false=>exact hb pins s1 σ H1 Q I1 q1
end
noncomputable def SqL(K:aa)(H:Hp)(a:Addr)(xs:List V):Prop:=
 Rd H a (.lst xs)\/
  ∃(o:Obj)(its:Array Value)(n:Nat),K.lookup a=some o/\o.cls=.type "list"/\o.dict=none/\o.data=.seq its n/\its.size<=sizeLine/\bp xs its.toList
noncomputable def SqT(K:aa)(H:Hp)(a:Addr)(xs:List V):Prop:=
 Rd H a (.tup xs)\/
  ∃(o:Obj)(its:Array Value)(n:Nat),K.lookup a=some o/\o.cls=.type "tuple"/\o.data=.seq its n/\its.size<=sizeLine/\bp xs its.toList
noncomputable def absV:Value->Option V
 |.none=>some .non
 |.bool b=>some (.bl b)
 |.int i _=>some (.int i)
 |.str x _=>some (.str x)
 |.bytes b _=>some (.byt b)
 |.float b _=>some (.flt b)
 |.ref a=>some (.ref a)
 |.type n=>some (.ty n)
 |_=>none
theorem RelV.abs{x:V}{u:Value}(r:RelV x u):absV u=some x:=by
 cases x with
 |non=>cases r;rfl
 |bl _=>cases r;rfl
 |int _=>obtain⟨t,rfl⟩:=r;rfl
 |str _=>obtain⟨t,rfl⟩:=r;rfl
 |byt _=>obtain⟨t,rfl⟩:=r;rfl
 |flt _=>obtain⟨t,rfl⟩:=r;rfl
 |ref _=>cases r;rfl
 |ty _=>cases r;rfl
theorem RelV.inj{x y:V}{u:Value}(r:RelV x u)(q:RelV y u):x=y:=aX (r.abs.symm.trans q.abs)
theorem bp.inj{xs ys:List V}{us:List Value}(h:bp xs us):bp ys us->xs=ys:=by
 induction h generalizing ys with
 |nil=>intro k;cases k;rfl
 |cons r k ih=>
  intro w;cases w with
  |cons r' w'=>rw[r.inj r',ih w']
section
variable {X:Cx}{pins:List (Addr×Obj)}{σ:St}{H:Hp}{s:Shared}{a:Addr}{xs ys:List V}
theorem SqL.of{K:aa}(h:H a=some (.lst xs)):SqL K H a xs:=.inl (.inl h)
theorem SqT.of{K:aa}(h:H a=some (.tup xs)):SqT K H a xs:=.inl (.inl h)
theorem Inv.list(I:Inv X pins σ H s)(h:SqL X.K H a xs):∃its:List Value,bp xs its/\PlainL s.heap a its.toArray/\xs.length<=sizeLine:=by
 rcases h with h|⟨o,its,n,hk,hc,hd,hs,hz,r⟩
 ·obtain⟨z,its,n,r,e⟩:=h.ok I.hok
  exact⟨its,r,⟨_,n,e,rfl,rfl,rfl⟩,z⟩
 ·refine⟨its.toList,r,⟨o,n,I.kIn a o hk,hc,hd,by simpa using hs⟩,?_⟩
  have e:=r.length;simp only[cC]at e;omega
theorem Inv.tuple(I:Inv X pins σ H s)(h:SqT X.K H a xs):∃its:List Value,bp xs its/\IsTup s.heap a its.toArray/\xs.length<=sizeLine:=by
 rcases h with h|⟨o,its,n,hk,hc,hs,hz,r⟩
 ·obtain⟨z,its,r,p⟩:=h.ok I.hok
  exact⟨its,r,p,z⟩
 ·refine⟨its.toList,r,⟨o,I.kIn a o hk,hc,n,by simpa using hs⟩,?_⟩
  have e:=r.length;simp only[cC]at e;omega
theorem Inv.nY(I:Inv X pins σ H s)(h:SqL X.K H a xs)(h':SqL X.K H a ys):xs=ys:=by
 obtain⟨its,r,⟨o,n,e,_,_,d⟩,_⟩:=I.list h;obtain⟨its',r',⟨o',n',e',_,_,d'⟩,_⟩:=I.list h';rw[e]at e';cases e';rw[d]at d';injection d' with d1 _
 have :its=its':=by simpa using congrArg Array.toList d1
 subst this;exact r.inj r'
theorem Inv.pP(I:Inv X pins σ H s)(h:SqT X.K H a xs)(h':SqT X.K H a ys):xs=ys:=by
 obtain⟨its,r,⟨o,e,_,n,d⟩,_⟩:=I.tuple h;obtain⟨its',r',⟨o',e',_,n',d'⟩,_⟩:=I.tuple h';rw[e]at e';cases e';rw[d]at d';injection d' with d1 _
 have :its=its':=by simpa using congrArg Array.toList d1
 subst this;exact r.inj r'
end
section
variable {X:Cx}{st:Stmt}{rest:List Stmt}{t u:TS}{e:Expr}{te:TE}{pos:Pos}
noncomputable def sF:TS:=fun D σ H=>D.nx σ H
noncomputable def tSeq(t u:TS):TS:=fun D σ H=>t {D with nx:=u D} σ H
theorem qR:PSs X [] sF:=fun _ _ σ H _ I h=>wpAny_execs_nil ⟨σ,H,I,h⟩
theorem sR(h1:PS X st t)(h2:PSs X rest u):PSs X (st::rest) (tSeq t u):=by
 intro pins s σ H D I h;refine wpAny_execs_cons (thn (h1 pins s σ H {D with nx:=u D} I h) fun f s1 q=>?_);cases f with
 |next =>
  obtain⟨σ',H',I',q⟩:=q;exact h2 pins s1 σ' H' D I' q
 |ret v=>exact q
 |brk=>exact q
 |cont=>exact q
noncomputable def yT:TS:=fun D σ H=>D.bk σ H
noncomputable def tCont:TS:=fun D σ H=>D.ct σ H
theorem wc:PS X (.Pass pos) sF:=fun _ _ σ H _ I h=>wpAny_Pass ⟨σ,H,I,h⟩
theorem zG:PS X (.Break pos) yT:=fun _ _ σ H _ I h=>wpAny_Break ⟨σ,H,I,h⟩
theorem sS:PS X (.Continue pos) tCont:=fun _ _ σ H _ I h=>wpAny_Continue ⟨σ,H,I,h⟩
theorem Inv.quiet{pins:List (Addr×Obj)}{σ:St}{H:Hp}{s:Shared}(I:Inv X pins σ H s):interactive X.env=false:=by simp[interactive,I.ok.kind]
noncomputable def yS(te:TE):TS:=fun D σ H=>te σ H fun _ H1=>D.nx σ H1
theorem we(he:PE X e te)(hs:kb e none pos.line X.env=pure false:=by rfl):PS X (.Expr e pos) (yS te):=by
 intro pins s σ H D I h;exact wpAny_Expr_any (thn (he pins s σ H _ I h) fun v s1 ⟨x,H1,I1,r1,q1⟩=>⟨σ,H1,I1,q1⟩) I.quiet hs
noncomputable def tRet(te:TE):TS:=fun D σ H=>te σ H D.rt
theorem zE(he:PE X e te):PS X (.Return (some e) pos) (tRet te):=by
 intro pins s σ H D I h;exact wpAny_Return_some (thn (he pins s σ H _ I h) fun v s1 ⟨x,H1,I1,r1,q1⟩=>⟨x,σ,H1,I1,r1,q1⟩)
noncomputable def yP:TS:=fun D _ H=>D.rt .non H
theorem ps_retN:PS X (.Return none pos) yP:=fun _ _ σ H _ I h=>wpAny_Return_none ⟨.non,σ,H,I,rfl,h⟩
noncomputable def tIfS(c:TT)(t u:TS):TS:=fun D σ H=>c σ H fun b H1=>if b=true then t D σ H1 else u D σ H1
theorem ps_if{c:Expr}{a b:List Stmt}{tc:TT}(hc:PT X c tc)(ha:PSs X a t)(hb:PSs X b u):PS X (.If c a b pos) (tIfS tc t u):=by
 intro pins s σ H D I h;refine wpAny_If (thn (hc pins s σ H _ I h) fun d s1 ⟨H1,I1,q1⟩=>?_);cases d with
 |true=>exact ha pins s1 σ H1 D I1 q1
 |false=>exact hb pins s1 σ H1 D I1 q1
end
noncomputable abbrev TG:=V->St->Hp->(St->Hp->Prop)->Prop
noncomputable abbrev TGs:=List V->St->Hp->(St->Hp->Prop)->Prop
noncomputable def PG(X:Cx)(target:Expr)(t:TG):Prop:=
 ∀(pins:List (Addr×Obj))(s:Shared)(σ:St)(H:Hp)(v:V)(u:Value)(Q:St->Hp->Prop),Inv X pins σ H s->RelV v u->t v σ H Q->
  wpAny (model X.prog X.w) X.A (assign target X.env u) (fun _ s'=>∃σ' H',Inv X pins σ' H' s'/\Q σ' H') X.xe s
noncomputable def PGs(X:Cx)(ts:List Expr)(t:TGs):Prop:=
 ∀(pins:List (Addr×Obj))(s:Shared)(σ:St)(H:Hp)(vs:List V)(us:List Value)(Q:St->Hp->Prop),Inv X pins σ H s->bp vs us->t vs σ H Q->
  wpAny (model X.prog X.w) X.A (assignInOrder ((er ts X.env).map (·.2)) us) (fun _ s'=>∃σ' H',Inv X pins σ' H' s'/\Q σ' H') X.xe s
noncomputable abbrev TSet:=V->V->V->Hp->(Hp->Prop)->Prop
noncomputable def PSet(X:Cx)(t:TSet):Prop:=
 ∀(pins:List (Addr×Obj))(s:Shared)(σ:St)(H:Hp)(o i v:V)(ov iv u:Value)(Q:Hp->Prop),Inv X pins σ H s->RelV o ov->RelV i iv->RelV v u->t o i v H Q->
  wpAny (model X.prog X.w) X.A (setItem ov iv u) (fun _ s'=>∃H',Inv X pins σ H' s'/\Q H') X.xe s
section
variable {X:Cx}{pos:Pos}
noncomputable def ot(i:Nat):TG:=fun v σ H Q=>Q (σ.set i (some v)) H
theorem qT{i:Nat}{x:Str}(hN:X.N.Nodup)(hi:X.N[i]? =some x)(hx:Loc X.env.scope x)(hf:X.fn x=true\/X.env.scope.names.lookup x=some .local:=by first |exact .inl rfl|exact .inr rfl|assumption):PG X (.Name x pos) (ot i):=by
 intro pins s σ H v u Q I r h;exact wpAny_assign_Name (m9 I hN hi hx r (fun s' I'=>⟨_,H,I',h⟩) hf)
noncomputable def gNil:TGs:=fun vs σ H Q=>vs=[]/\Q σ H
noncomputable def Au(t:TG)(u:TGs):TGs:=fun vs σ H Q=>∃v r,vs=v::r/\t v σ H fun σ' H'=>u r σ' H' Q
theorem pgs_nil:PGs X [] gNil:=by
 intro pins s σ H vs us Q I r h;obtain⟨e,h⟩:=h;subst e;cases r;exact assignInOrder_nil ⟨σ,H,I,h⟩
theorem zK{e:Expr}{es:List Expr}{t:TG}{u:TGs}(h1:PG X e t)(h2:PGs X es u)
  (hs:(er (e::es) X.env).map (·.2)=assign e X.env::(er es X.env).map (·.2):=by rfl):PGs X (e::es) (Au t u):=by
 intro pins s σ H vs us Q I r h;obtain⟨v,vr,e1,h⟩:=h;subst e1;cases r with
 |cons r rr=>
  rw[hs];refine assignInOrder_cons (thn (h1 pins s σ H _ _ _ I r h) fun _ s1 ⟨σ1,H1,I1,q1⟩=>?_);exact h2 pins s1 σ1 H1 _ _ Q I1 rr q1
noncomputable def gTup(K:aa)(n:Nat)(t:TGs):TG:=fun v σ H Q=>∃a xs,v=.ref a/\SqT K H a xs/\xs.length=n/\t xs σ H Q
theorem pg_tup{es:List Expr}{k:Nat}{t:TGs}{n:Nat}(hc:X.calm=true)(h:PGs X es t)
  (hn:(er es X.env).length=n:=by rfl) (hst:(er es X.env).findIdx? (·.1)=none:=by rfl):PG X (.Tuple es k pos) (gTup X.K n t):=by
 intro pins s σ H v u Q I r hw;obtain⟨a,xs,e1,hq,hl,hw⟩:=hw;subst e1;cases r;obtain⟨its,rv,ht,hz⟩:=I.tuple hq;refine assign_Tuple_tuple (I.ok.hd hc) ht (by simp[hn,<-hl,rv.length]) hst fun h' hx=>?_;have I1:Inv X pins σ H {s with heap:=h'}:=I.kept (t':=s.toks) fun b o e=>hx b o (aW (ay e)) e;exact h pins _ σ H xs _ Q I1 (by simpa using rv) hw
noncomputable def gSub(to ti:TE)(t:TSet):TG:=fun v σ H Q=>to σ H fun o H1=>ti σ H1 fun i H2=>t o i v H2 fun H3=>Q σ H3
theorem pg_sub{o i:Expr}{to ti:TE}{t:TSet}(ho:PE X o to)(hi:PE X i ti)(hs:PSet X t)
  (ha:∀v,assign (.Subscript o i pos) X.env v=(do
   let ov<-holding [v] (eval o X.env)
   let iv<-holding [v,ov] (eval i X.env)
   rV pos
   holding [v,ov,iv] (setItem ov iv v)
   release [v,ov,iv] []):=by intro _;rfl):PG X (.Subscript o i pos) (gSub to ti t):=by
 intro pins s σ H v u Q I r h;rw[ha];refine af (bN (thn (ho pins s σ H _ I h) fun ov s1 ⟨x,H1,I1,r1,q1⟩=>?_));refine af (bN (thn (hi pins s1 σ H1 _ I1 q1) fun iv s2 ⟨y,H2,I2,r2,q2⟩=>?_));refine af (dN (af (bN (thn (hs pins s2 σ H2 x y v ov iv u _ I2 r1 r2 r q2) fun _ s3 ⟨H3,I3,q3⟩=>?_))));exact wpAny_release ⟨σ,H3,I3,q3⟩
noncomputable def xk(te:TE)(g:TG):TS:=fun D σ H=>te σ H fun x H1=>g x σ H1 D.nx
theorem zH{tg e:Expr}{te:TE}{g:TG}(he:PE X e te)(hg:PG X tg g)(hs:AV [tg] e pos.line X.env=pure false:=by rfl) (hw:swappedStores [tg] e X.env=pure none:=by rfl)
  (h1:(er [tg] X.env).map (·.2)=[assign tg X.env]:=by rfl):PS X (.Assign [tg] e pos) (xk te g):=by
 intro pins s σ H D I h;refine wpAny_Assign_stores (thn (he pins s σ H _ I h) fun v s1 ⟨x,H1,I1,r1,q1⟩=>?_) hs hw;rw[h1];exact thn (hg pins s1 σ H1 x v _ I1 r1 q1) fun _ s2 q=>q
theorem ps_set{i:Nat}{x:Str}{e:Expr}{te:TE}{pos':Pos}(hN:X.N.Nodup)(hi:X.N[i]? =some x)(hx:Loc X.env.scope x)(he:PE X e te)(hs:kb e (some (.Name x pos')) pos.line X.env=pure false:=by rfl) (hf:X.fn x=true\/X.env.scope.names.lookup x=some .local:=by first |exact .inl rfl|exact .inr rfl|assumption):
  PS X (.Assign [.Name x pos'] e pos) (xk te (ot i)):=by
 intro pins s σ H D I h;refine wpAny_Assign_Name (thn (he pins s σ H _ I h) fun v s1 ⟨y,H1,I1,r1,q1⟩=>?_) hs;exact m9 I1 hN hi hx r1 (fun s2 I2=>⟨_,H1,I2,q1⟩) hf
end
section
variable {X:Cx}{pos:Pos}
noncomputable def tWhile(c:TT)(tb:TS):TS:=fun D σ H=>∃W:Nat->St->Hp->Prop,(∃m,W m σ H)/\∀m σ H,W m σ H->
 c σ H fun b H1=>if b=true then ∃N:St->Hp->Prop,(∀σ' H',N σ' H'->∃m',m'<m/\W m' σ' H')/\tb {D with nx:=N,ct:=N,bk:=D.nx} σ H1 else D.nx σ H1
end
structure It where
 go:Nat->Hp->Prop
 yld:Nat->Hp->V->Hp->Prop
 stop:Nat->Hp->Prop
noncomputable def kT(X:Cx)(pins:List (Addr×Obj))(H:Hp)(b:Addr):Prop:=
 H b=none/\b≠X.env.locals/\b∉X.fs/\(b∈X.ex\/X.s₀.heap.objs.size<=b)/\(∀x c,X.env.cells.lookup x=some c->c≠b)/\∀p∈X.pn++pins,p.1≠b
theorem Inv.rB{X:Cx}{pins:List (Addr×Obj)}{σ:St}{H H':Hp}{s:Shared}{b:Addr}(I:Inv X pins σ H s)(hb:s.heap.objs.size<=b)(hn:H' b=none):kT X pins H' b:=by
 refine⟨hn,jA (aQ I.lt hb),I.nofs hb,.inr (au I.sz hb),fun x c e z=>?_,fun p hp z=>?_⟩
 ·obtain⟨v,q⟩:=I.cell x c e
  exact absurd (aQ q.lt (by rw[z];exact hb)) (da _)
 ·exact absurd (aQ (ay (I.pin p hp).1) (by rw[z];exact hb)) (da _)
structure Turn(P:Program)(w:World)(K:aa)(tg:Expr)(J:It)(fp:List Addr)(it:Addr)(tn:Nat->Heap->Prop):Prop where
 mem:it∈fp
 obj:∀i h,tn i h->∀b∈fp,∃o,h.get? b=some o/\∀v,o.data≠.cell v
 keep:∀i h h',tn i h->(∀b∈fp,∀o,h.get? b=some o->h'.get? b=some o)->tn i h'
 item:∀(X:Cx),X.prog=P->X.w=w->X.K=K->X.calm=true->∀(i:Nat)(pins:List (Addr×Obj))(s:Shared)(σ:St)(H:Hp)(E:Value->Shared->Prop),Inv X pins σ H s->(∀b∈fp,kT X pins H b)->tn i s.heap->J.go i H->
  wpAny (model P w) X.A (pyNext (.ref it)) (fun r s1=>∃u,r=some u/\
   wpAny (model P w) X.A (kY tg (.ref it) u) (fun _ s2=>∃x H',Inv X pins σ H' s2/\RelV x u/\J.yld i H x H'/\tn (i+1) s2.heap/\∀b∈fp,H' b=none) E s1) E s
 done:∀(X:Cx),X.prog=P->X.w=w->X.K=K->X.calm=true->∀(i:Nat)(pins:List (Addr×Obj))(s:Shared)(σ:St)(H:Hp)(E:Value->Shared->Prop),Inv X pins σ H s->(∀b∈fp,kT X pins H b)->tn i s.heap->J.stop i H->
  wpAny (model P w) X.A (pyNext (.ref it)) (fun r s1=>r=none/\Inv X pins σ H s1) E s
 self:∀(A:Around)(i:Nat)(s:Shared)(Q:Value->Shared->Prop)(E:Value->Shared->Prop),tn i s.heap->Q (.ref it) s->wpAny (model P w) A (pyIter (.ref it)) Q E s
noncomputable abbrev TI:=St->Hp->(It->Hp->Prop)->Prop
noncomputable def PIE(X:Cx)(pins:List (Addr×Obj))(σ:St)(tg:Expr)(R:It->Hp->Prop)(itv:Value)(s2:Shared):Prop:=
 ∃(it:Addr)(fp:List Addr)(tn:Nat->Heap->Prop)(J:It)(H':Hp),itv=.ref it/\Inv X pins σ H' s2/\Turn X.prog X.w X.K tg J fp it tn/\tn 0 s2.heap/\(∀b∈fp,kT X pins H' b)/\R J H'
noncomputable def PI(X:Cx)(tg iter:Expr)(wi:TI):Prop:=
 ∀(pins:List (Addr×Obj))(s:Shared)(σ:St)(H:Hp)(R:It->Hp->Prop),Inv X pins σ H s->wi σ H R->
  wpAny (model X.prog X.w) X.A (eval iter X.env) (fun v s1=>wpAny (model X.prog X.w) X.A (pyIter v) (PIE X pins σ tg R) X.xe s1) X.xe s
theorem wD{M:Model}{A:Around}{E:Value->Shared->Prop}{s:Shared}{tg:Expr}{it:Addr}{u:Value}{o:Obj}{n:String}{vs:Array Value}{Q:Unit->Shared->Prop}(ho:s.heap.get? it=some o)(hc:o.cls=.type n)(hd:o.data=.fields vs)
  (hn:["enumerate","zip","dict_itemiterator","dict_reverseitemiterator","odict_iterator","itertools.zip_longest","itertools.pairwise"].contains n=false)(hQ:Q () s):wpAny M A (kY tg (.ref it) u) Q E s:=by
 unfold kY;cases tg<;>first
  |exact aj hQ
  | (cases u<;>first
    |exact aj hQ
    | (refine af (wpAny_load ho ?_)
       rw[hc,hd];show wpAny M A (if(["enumerate","zip","dict_itemiterator","dict_reverseitemiterator","odict_iterator","itertools.zip_longest","itertools.pairwise"].contains n&&vs[0]? ==some (rawInt _))=true then _ else _) Q E s;rw[if_neg (by intro h;rw[hn,bT]at h;cases h)];exact aj hQ))
noncomputable def Itl(K:aa)(a:Addr):It:=
 ⟨fun i H=>∃xs x,SqL K H a xs/\xs[i]? =some x,fun i H x H'=>H'=H/\∀xs,SqL K H a xs->xs[i]? =some x,fun i H=>∃xs,SqL K H a xs/\xs.length<=i⟩
noncomputable def Itt(K:aa)(a:Addr):It:=
 ⟨fun i H=>∃xs x,SqT K H a xs/\xs[i]? =some x,fun i H x H'=>H'=H/\∀xs,SqT K H a xs->xs[i]? =some x,fun i H=>∃xs,SqT K H a xs/\xs.length<=i⟩
noncomputable def Itr(lo:Int)(n:Nat):It:=⟨fun i _=>i<n,fun i H x H'=>H'=H/\x=.int (lo+i),fun i _=>n<=i⟩
theorem pO{P:Program}{w:World}{K:aa}{tg:Expr}(a it:Addr):Turn P w K tg (Itl K a) [it] it (fun i h=>h.IsListIter it a i) where
 mem:=by simp
 obj:=fun i h st b hb=>by
  have e:b=it:=by simpa using hb
  subst e;obtain⟨o,e,c,d⟩:=st;exact⟨o,e,fun v z=>by rw[d]at z;cases z⟩
 keep:=fun i h h' st k=>st.at fun o e=>k it (by simp) o e
 item:=by
  intro X hP hw hK hc i pins s σ H E I hf st hg;subst hP hw hK;obtain⟨xs,x,hq,hx⟩:=hg;obtain⟨its,rv,p,hz⟩:=I.list hq;obtain⟨u,hu,ru⟩:=rv.get hx;obtain⟨f0,f1,f2,f3,f4,f5⟩:=hf it (by simp);refine wpAny_pyNext_list_item st p.isList (x:=u) (by simpa using hu) fun h' st' sb=>?_;have I1:Inv X pins σ H {s with heap:=h'}:=I.turned (t':=s.toks) (fun b o hb e=>(sb.2 b hb).trans e) f0 f1 f3 f4 f5;obtain⟨o,e,c,d⟩:=id st';exact⟨u,rfl,wD (s:={s with heap:=h'}) e c d (by decide) ⟨x,H,I1,ru,⟨rfl,fun ys hy=>by rw[I.nY hy hq];exact hx⟩,st',fun b hb=>(hf b hb).1⟩⟩
 done:=by
  intro X hP hw hK hc i pins s σ H E I hf st hg;subst hP hw hK;obtain⟨xs,hq,hx⟩:=hg;obtain⟨its,rv,p,hz⟩:=I.list hq;obtain⟨f0,f1,f2,f3,f4,f5⟩:=hf it (by simp);have hl:=rv.length;exact wpAny_pyNext_list_end (I.ok.hd hc) st p.isList (by simp;omega) fun h' eb=>⟨rfl,I.turned (t':=s.toks) (fun b o hb e=>eb b o hb e) f0 f1 f3 f4 f5⟩
 self:=fun _ _ _ _ _ st h=>wpAny_pyIter_listiter st h
theorem m7{P:Program}{w:World}{K:aa}{tg:Expr}(a it:Addr):Turn P w K tg (Itt K a) [it] it (fun i h=>h.IsTupleIter it a i) where
 mem:=by simp
 obj:=fun i h st b hb=>by
  have e:b=it:=by simpa using hb
  subst e;obtain⟨o,e,c,d⟩:=st;exact⟨o,e,fun v z=>by rw[d]at z;cases z⟩
 keep:=fun i h h' st k=>st.at fun o e=>k it (by simp) o e
 item:=by
  intro X hP hw hK hc i pins s σ H E I hf st hg;subst hP hw hK;obtain⟨xs,x,hq,hx⟩:=hg;obtain⟨its,rv,p,hz⟩:=I.tuple hq;obtain⟨u,hu,ru⟩:=rv.get hx;obtain⟨f0,f1,f2,f3,f4,f5⟩:=hf it (by simp);refine wpAny_pyNext_tuple_item st (show s.heap.IsTuple a its.toArray from p) (x:=u) (by simpa using hu) fun h' st' sb=>?_;have I1:Inv X pins σ H {s with heap:=h'}:=I.turned (t':=s.toks) (fun b o hb e=>(sb.2 b hb).trans e) f0 f1 f3 f4 f5;obtain⟨o,e,c,d⟩:=id st';exact⟨u,rfl,wD (s:={s with heap:=h'}) e c d (by decide) ⟨x,H,I1,ru,⟨rfl,fun ys hy=>by rw[I.pP hy hq];exact hx⟩,st',fun b hb=>(hf b hb).1⟩⟩
 done:=by
  intro X hP hw hK hc i pins s σ H E I hf st hg;subst hP hw hK;obtain⟨xs,hq,hx⟩:=hg;obtain⟨its,rv,p,hz⟩:=I.tuple hq;obtain⟨f0,f1,f2,f3,f4,f5⟩:=hf it (by simp);have hl:=rv.length;exact wpAny_pyNext_tuple_end (I.ok.hd hc) st (show s.heap.IsTuple a its.toArray from p) (by simp;omega) fun h' eb=>⟨rfl,I.turned (t':=s.toks) (fun b o hb e=>eb b o hb e) f0 f1 f3 f4 f5⟩
 self:=fun _ _ _ _ _ st h=>wpAny_pyIter_tupleiter st h
theorem uM{P:Program}{w:World}{K:aa}{tg:Expr}(it:Addr)(lo:Int)(n:Nat):Turn P w K tg (Itr lo n) [it] it (fun i h=>IsRangeIter h it (lo+(i:Nat)*1) ((n:Int)-(i:Nat)) 1) where
 mem:=by simp
 obj:=fun i h st b hb=>by
  have e:b=it:=by simpa using hb
  subst e;exact⟨_,st,fun v z=>by
   have z':Data.fields _=Data.cell v:=z;cases z'⟩
 keep:=fun i h h' st k=>k it (by simp) _ st
 item:=by
  intro X hP hw hK hc i pins s σ H E I hf st hg;subst hP hw hK;obtain⟨f0,f1,f2,f3,f4,f5⟩:=hf it (by simp);have W:=Walks.range (prog:=X.prog) (w:=X.w) (I.ok.hd hc) it lo 1 n;refine W.item i s _ _ hg st fun v h' tk hv st' kk=>?_;obtain⟨t,rfl⟩:=hv;have I1:Inv X pins σ H {s with heap:=h',toks:=tk}:=I.turned (fun b o hb e=>kk b o (by simpa using hb) e) f0 f1 f3 f4 f5;refine⟨_,rfl,wD (s:={s with heap:=h',toks:=tk}) (n:="range_iterator") st' rfl rfl (by decide) ⟨.int (lo+i),H,I1,⟨t,?_⟩,⟨rfl,rfl⟩,st',fun b hb=>(hf b hb).1⟩⟩;rw[Int.mul_one]
 done:=by
  intro X hP hw hK hc i pins s σ H E I hf st hg;subst hP hw hK;obtain⟨f0,f1,f2,f3,f4,f5⟩:=hf it (by simp);exact wpAny_pyNext_range_end (I.ok.hd hc) st (by have :n<=i:=hg;omega) fun h' eb=>⟨rfl,I.turned (t':=s.toks) (fun b o hb e=>eb b o hb e) f0 f1 f3 f4 f5⟩
 self:=fun _ _ _ _ _ st h=>wpAny_pyIter_rangeiter st h
section
variable {X:Cx}{tg:Expr}
noncomputable def Aq(K:aa)(tl:TE):TI:=fun σ H R=>tl σ H fun x H1=>∃a,x=.ref a/\(∃xs,SqL K H1 a xs)/\R (Itl K a) H1
noncomputable def iTup(K:aa)(tl:TE):TI:=fun σ H R=>tl σ H fun x H1=>∃a,x=.ref a/\(∃xs,SqT K H1 a xs)/\R (Itt K a) H1
theorem pi_list{l:Expr}{tl:TE}(hl:PE X l tl):PI X tg l (Aq X.K tl):=by
 intro pins s σ H R I h;refine thn (hl pins s σ H _ I h) fun v s1 ⟨x,H1,I1,r1,q1⟩=>?_;obtain⟨a,e,⟨xs,hq⟩,q⟩:=q1;subst e;cases r1;obtain⟨its,rv,p,hz⟩:=I1.list hq;refine jt p.isList ?_;refine⟨s1.heap.objs.size,[s1.heap.objs.size],_,_,H1,rfl,I1.kept (t':=s1.toks) fun b o e=>ai _ e,pO a _,⟨_,aO _ rfl,rfl,rfl⟩,fun b hb=>?_,q⟩;have e:b=s1.heap.objs.size:=by simpa using hb
 subst e;exact I1.rB (ao _) (I1.hok.fresh (ao _))
theorem pi_tup{l:Expr}{tl:TE}(hl:PE X l tl):PI X tg l (iTup X.K tl):=by
 intro pins s σ H R I h;refine thn (hl pins s σ H _ I h) fun v s1 ⟨x,H1,I1,r1,q1⟩=>?_;obtain⟨a,e,⟨xs,hq⟩,q⟩:=q1;subst e;cases r1;obtain⟨its,rv,p,hz⟩:=I1.tuple hq;refine wpAny_pyIter_tuple (show s1.heap.IsTuple a its.toArray from p) ?_;refine⟨s1.heap.objs.size,[s1.heap.objs.size],_,_,H1,rfl,I1.kept (t':=s1.toks) fun b o e=>ai _ e,m7 a _,⟨_,aO _ rfl,rfl,rfl⟩,fun b hb=>?_,q⟩;have e:b=s1.heap.objs.size:=by simpa using hb
 subst e;exact I1.rB (ao _) (I1.hok.fresh (ao _))
theorem sQ{pins:List (Addr×Obj)}{σ:St}{H:Hp}{s:Shared}{R:It->Hp->Prop}{E:Value->Shared->Prop}{lo hi:Int}{t u v:Tok}{tk:Nat}(I:Inv X pins σ H s)(h1: -(2^62)<=lo)(h2:lo<2^62)(h3: -(2^62)<=hi)(h4:hi<2^62)
  (q:R (Itr lo (hi-lo).toNat) H):wpAny (model X.prog X.w) X.A (pyIter (.ref s.heap.objs.size)) (PIE X pins σ tg R) E {s with heap:=s.heap.push {cls:=.type "range",data:=.fields #[.int lo t,.int hi u,.int 1 v]},toks:=tk}:=by
 refine wpAny_pyIter_range (IsRange.new ..) (small_one h1 h2 h3 h4) ?_;have I1:Inv X pins σ H {s with heap:=s.heap.push {cls:=.type "range",data:=.fields #[.int lo t,.int hi u,.int 1 v]},toks:=tk}:=I.kept fun b o e=>ai _ e;refine⟨(s.heap.push {cls:=.type "range",data:=.fields #[.int lo t,.int hi u,.int 1 v]}).objs.size,[(s.heap.push {cls:=.type "range",data:=.fields #[.int lo t,.int hi u,.int 1 v]}).objs.size],_,_,H,rfl,
  I1.kept (t':=tk) fun b o e=>ai _ e,uM _ lo (hi-lo).toNat,?_,fun b hb=>?_,q⟩
 ·have e1:lo+((0:Nat):Int)*1=lo:=by simp
  have e2:(((hi-lo).toNat:Nat):Int)-((0:Nat):Int)=Builtin.Range.rangeSize lo hi 1:=by rw[rangeSize_one];split <;>omega
  show IsRangeIter _ _ (lo+((0:Nat):Int)*1) ((((hi-lo).toNat:Nat):Int)-((0:Nat):Int)) 1;rw[e1,e2];exact aO _ rfl
 ·have e:b=(s.heap.push {cls:=.type "range",data:=.fields #[.int lo t,.int hi u,.int 1 v]}).objs.size:=by simpa using hb
  subst e;exact I1.rB (ao _) (I1.hok.fresh (ao _))
noncomputable def Ap(ta:TA):TI:=fun σ H R=>ta σ H fun vs H1=>∃j:Int,vs=[.int j]∧-(2^62)<=j/\j<2^62/\R (Itr 0 j.toNat) H1
noncomputable def Ao(ta:TA):TI:=fun σ H R=>ta σ H fun vs H1=>∃i j:Int,vs=[.int i,.int j]/\(-(2^62)<=i/\i<2^62∧-(2^62)<=j/\j<2^62)/\R (Itr i (j-i).toNat) H1
theorem xD{a:Expr}{ta:TA}{p pos:Pos}(hg:Gl X "range")(hm:X.mg "range"=none)(ha:PA X [a] ta)(hs:aB [a] X.env=[(false,eval a X.env)]:=by rfl):PI X tg (.Call (.Name "range" p) [a] [] pos) (Ap ta):=by
 intro pins s σ H R I h;refine Call_ (lE I hg hm boot_range (dm (thn (ha pos pins s σ H _ I h) fun us s1 ⟨vs,H1,I1,r1,q1⟩=>?_) hs rfl));obtain⟨j,e,q1,q2,q⟩:=q1;subst e;cases r1 with
 |cons r rr=>
  cases rr;obtain⟨t,rfl⟩:=r;exact call_range_1 (sQ I1 (by omega) (by omega) q1 q2 (by simpa using q))
theorem xC{a b:Expr}{ta:TA}{p pos:Pos}(hg:Gl X "range")(hm:X.mg "range"=none)(ha:PA X [a,b] ta)(hs:aB [a,b] X.env=[(false,eval a X.env),(false,eval b X.env)]:=by rfl) (hs2:aB [b] X.env=[(false,eval b X.env)]:=by rfl):
  PI X tg (.Call (.Name "range" p) [a,b] [] pos) (Ao ta):=by
 intro pins s σ H R I h;refine Call_ (lE I hg hm boot_range (dm (thn (ha pos pins s σ H _ I h) fun us s1 ⟨vs,H1,I1,r1,q1⟩=>?_) (by rw[hs,hs2]) (by rw[hs2];rfl)));obtain⟨i,j,e,⟨q1,q2,q3,q4⟩,q⟩:=q1;subst e;cases r1 with
 |cons r rr=>
  cases rr with
  |cons r' rr=>
   cases rr;obtain⟨t,rfl⟩:=r;obtain⟨t',rfl⟩:=r';exact call_range_2 (sQ I1 q1 q2 q3 q4 q)
noncomputable def tFor(wi:TI)(g:TG)(tb:TS):TS:=fun D σ H=>wi σ H fun J H1=>∃W:Nat->Nat->St->Hp->Prop,(∃m,W 0 m σ H1)/\∀i m σ H,W i m σ H->
 (J.stop i H/\D.nx σ H)\/(J.go i H/\∃N:St->Hp->Prop,(∀σ' H',N σ' H'->∃m',m'<m/\W (i+1) m' σ' H')/\∀x H',J.yld i H x H'->g x σ H' fun σ2 H2=>tb {D with nx:=N,ct:=N,bk:=D.nx} σ2 H2)
noncomputable def fG(fp:List Addr)(h:Heap):List (Addr×Obj):=fp.filterMap fun b=>(h.get? b).map fun o=>(b,o)
theorem eX{fp:List Addr}{h:Heap}{b:Addr}{o:Obj}(hb:b∈fp)(e:h.get? b=some o):(b,o)∈fG fp h:=List.mem_filterMap.mpr ⟨b,hb,by rw[e];rfl⟩
theorem lu{fp:List Addr}{h:Heap}{p:Addr×Obj}(hp:p∈fG fp h):p.1∈fp/\h.get? p.1=some p.2:=by
 obtain⟨b,hb,e⟩:=List.mem_filterMap.mp hp;cases q:h.get? b with
 |none=>rw[q]at e;cases e
 |some o=>
  rw[q]at e;have e':(b,o)=p:=aX e;subst e';exact⟨hb,q⟩
theorem Inv.pinned{pins:List (Addr×Obj)}{σ:St}{H:Hp}{s:Shared}{fp:List Addr}(I:Inv X pins σ H s)(hf:∀b∈fp,kT X pins H b)(ho:∀b∈fp,∃o,s.heap.get? b=some o/\∀v,o.data≠.cell v):Inv X (pins++fG fp s.heap) σ H s:=
 I.qS fun p hp=>(bJ.mp hp).elim (fun z=>I.pin p (aG _ z)) fun z=>by
  obtain⟨hb,e⟩:=lu z;obtain⟨f0,f1,f2,_⟩:=hf p.1 hb;obtain⟨o,e',d⟩:=ho p.1 hb;rw[e]at e';cases e';exact⟨e,f0,f1,f2,d⟩
theorem Inv.eB{pins pl:List (Addr×Obj)}{σ:St}{H:Hp}{s:Shared}(I:Inv X (pins++pl) σ H s):Inv X pins σ H s:=I.qS fun p hp=>I.pin p (aG _ (bG _ hp))
theorem ps_for{iter:Expr}{body:List Stmt}{wi:TI}{g:TG}{tb:TS}{pos:Pos}(hp:PassesOwn (model X.prog X.w) X.A X.env X.xe)(hc:X.calm=true)(hi:PI X tg iter wi)(hg:PG X tg g)(hb:PSs X body tb)
  (hs:∀x,fW iter X.env x=pure x:=by intro _;rfl):PS X (.For tg iter body [] pos) (tFor wi g tb):=by
 intro pins s σ H D I h;refine wpAny_For (thn (hi pins s σ H _ I h) fun v s1 h1=>thn h1 fun itv s2 h2=>?_) hs;obtain⟨it,fp,tn,J,H2,e,I2,T,st2,f2,W,⟨m0,w0⟩,turn⟩:=h2;subst e
 --what stays true of the iterator's objects through the loop
 have stat:∀{H':Hp},(∀b∈fp,H' b=none)->∀b∈fp,kT X pins H' b:=fun hn b hb=>⟨hn b hb,(f2 b hb).2⟩;refine codeAny_forLoop_any (fun n s'=>∃i σ' H',Inv X pins σ' H' s'/\tn i s'.heap/\(∀b∈fp,H' b=none)/\W i n σ' H') ?_ m0 ⟨0,σ,H2,I2,st2,fun b hb=>(f2 b hb).1,w0⟩;rintro n s3 ⟨i,σ3,H3,I3,st3,fr3,w3⟩;rcases turn i n σ3 H3 w3 with⟨stop,qn⟩ |⟨go,N,hN,step⟩
 ·refine gW hp (thn (T.done X rfl rfl rfl hc i pins s3 σ3 H3 X.xe I3 (stat fr3) st3 stop) fun r s4 ⟨hr,I4⟩=>?_)
  subst hr;exact wpAny_execs_nil ⟨σ3,H3,I4,qn⟩
 ·refine gW hp (thn (T.item X rfl rfl rfl hc i pins s3 σ3 H3 X.xe I3 (stat fr3) st3 go) fun r s4 ⟨u,hr,h4⟩=>?_)
  subst hr;refine gW hp (thn h4 fun _ s5 ⟨x,H5,I5,r5,y5,st5,fr5⟩=>?_);have I5':=I5.pinned (stat fr5) (T.obj _ _ st5);refine gW hp (thn (hg _ s5 σ3 H5 x u _ I5' r5 (step x H5 y5)) fun _ s6 ⟨σ6,H6,I6,q6⟩=>?_);refine gW hp (thn (hb _ s6 σ6 H6 _ I6 q6) fun f s7 q7=>?_);have again:∀{σ7:St}{H7:Hp},Inv X (pins++fG fp s5.heap) σ7 H7 s7->N σ7 H7->∃m,m<n/\∃i σ' H',Inv X pins σ' H' s7/\tn i s7.heap/\(∀b∈fp,H' b=none)/\W i m σ' H':=fun{σ7 H7} I7 n7=>by
   obtain⟨m',hm,w7⟩:=hN σ7 H7 n7;refine⟨m',hm,i+1,σ7,H7,I7.eB,T.keep _ _ _ st5 fun b hb o e=>(I7.pin (b,o) (aG _ (aG _ (eX hb e)))).1,fun b hb=>?_,w7⟩;obtain⟨o,e,d⟩:=T.obj _ _ st5 b hb;exact(I7.pin (b,o) (aG _ (aG _ (eX hb e)))).2.1
  cases f with
  |next =>obtain⟨σ7,H7,I7,n7⟩:=q7;exact again I7 n7
  |cont=>obtain⟨σ7,H7,I7,n7⟩:=q7;exact again I7 n7
  |brk=>obtain⟨σ7,H7,I7,q7⟩:=q7;exact⟨σ7,H7,I7.eB,q7⟩
  |ret v=>obtain⟨x7,σ7,H7,I7,r7,q7⟩:=q7;exact⟨x7,σ7,H7,I7.eB,r7,q7⟩
end
noncomputable abbrev R2:=V->V->Hp->VK->Prop
noncomputable def OpR(X:Cx)(f:Value->Value->Sem Value)(r:R2):Prop:=
 ∀(pins:List (Addr×Obj))(s:Shared)(σ:St)(H:Hp)(x y:V)(v u:Value)(Q:VK),Inv X pins σ H s->RelV x v->RelV y u->r x y H Q->
  wpAny (model X.prog X.w) X.A (f v u) (EP X pins σ Q) X.xe s
noncomputable def UnR(X:Cx)(f:Value->Sem Value)(r:V->Hp->VK->Prop):Prop:=
 ∀(pins:List (Addr×Obj))(s:Shared)(σ:St)(H:Hp)(x:V)(v:Value)(Q:VK),Inv X pins σ H s->RelV x v->r x H Q->
  wpAny (model X.prog X.w) X.A (f v) (EP X pins σ Q) X.xe s
noncomputable def eK(X:Cx)(f:Value)(r:List V->Hp->VK->Prop):Prop:=
 ∀(pins:List (Addr×Obj))(s:Shared)(σ:St)(H:Hp)(xs:List V)(us:List Value)(Q:VK),Inv X pins σ H s->bp xs us->r xs H Q->
  wpAny (model X.prog X.w) X.A (call f us) (EP X pins σ Q) X.xe s
noncomputable def TruR(X:Cx)(r:V->Hp->(Bool->Hp->Prop)->Prop):Prop:=
 ∀(pins:List (Addr×Obj))(s:Shared)(σ:St)(H:Hp)(x:V)(v:Value)(Q:Bool->Hp->Prop),Inv X pins σ H s->RelV x v->r x H Q->
  wpAny (model X.prog X.w) X.A (truthy v) (TP X pins σ Q) X.xe s
noncomputable def tOp(r:R2)(ta tb:TE):TE:=fun σ H Q=>ta σ H fun x H1=>tb σ H1 fun y H2=>r x y H2 Q
noncomputable def tUn(r:V->Hp->VK->Prop)(ta:TE):TE:=fun σ H Q=>ta σ H fun x H1=>r x H1 Q
noncomputable def rI(C:Int->Int->Prop)(g:Int->Int->V):R2:=fun x y H Q=>∃i j,x=.int i/\y=.int j/\C i j/\Q (g i j) H
noncomputable def rI0(g:Int->Int->V):R2:=fun x y H Q=>∃i j,x=.int i/\y=.int j/\Q (g i j) H
noncomputable def rU(g:Int->V):V->Hp->VK->Prop:=fun x H Q=>∃i,x=.int i/\Q (g i) H
section
variable {X:Cx}{a b c:Expr}{ta tb tc:TE}{pos:Pos}
theorem binT(ha:PE X a ta)(hb:PE X b tb){pins:List (Addr×Obj)}{s:Shared}{σ:St}{H:Hp}{R:V->V->Hp->Prop}(I:Inv X pins σ H s)
  (h:ta σ H fun x H1=>tb σ H1 fun y H2=>R x y H2){Q:Value->Shared->Prop}{f:Value->Value->Sem Value}
  (hf:∀v u s2 x y H2,Inv X pins σ H2 s2->RelV x v->RelV y u->R x y H2->wpAny (model X.prog X.w) X.A (f v u) Q X.xe s2):
  wpAny (model X.prog X.w) X.A (eval a X.env) (fun v s₁=>wpAny (model X.prog X.w) X.A (eval b X.env) (fun u s₂=>wpAny (model X.prog X.w) X.A (f v u) Q X.xe s₂) X.xe s₁) X.xe s:=by
 refine thn (ha pins s σ H _ I h) fun v s1 ⟨x,H1,I1,r1,q1⟩=>?_;refine thn (hb pins s1 σ H1 _ I1 q1) fun u s2 ⟨y,H2,I2,r2,q2⟩=>?_;exact hf v u s2 x y H2 I2 r1 r2 q2
theorem pe_op{op:Operator}{r:R2}(ho:OpR X (cB op) r)(ha:PE X a ta)(hb:PE X b tb):PE X (.BinOp a op b pos) (tOp r ta tb):=by
 intro pins s σ H Q I h;exact wpAny_BinOp (binT ha hb I h fun v u s2 x y H2 I2 rx ry q=>ho pins s2 σ H2 x y v u Q I2 rx ry q)
theorem pe_un{op:wV}{r:V->Hp->VK->Prop}(ho:UnR X (unaryOp op) r)(ha:PE X a ta):PE X (.UnaryOp op a pos) (tUn r ta):=by
 intro pins s σ H Q I h;exact UnaryOp_ (thn (ha pins s σ H _ I h) fun v s1 ⟨x,H1,I1,r1,q1⟩=>ho pins s1 σ H1 x v Q I1 r1 q1)
theorem opI{f:Value->Value->Sem Value}{C:Int->Int->Prop}{g:Int->Int->Int}
  (rule:∀(i j:Int)(t u:Tok)(s:Shared)(Q:Value->Shared->Prop)(E:Value->Shared->Prop),C i j->Q (.int (g i j) s.toks) {s with toks:=s.toks+1}->wpAny (model X.prog X.w) X.A (f (.int i t) (.int j u)) Q E s):
  OpR X f (rI C fun i j=>.int (g i j)):=by
 intro pins s σ H x y v u Q I rx ry h;obtain⟨i,j,rfl,rfl,hc,q⟩:=h;obtain⟨t,rfl⟩:=rx;obtain⟨t',rfl⟩:=ry;exact rule i j t t' s _ _ hc ⟨.int (g i j),H,I.tok _,⟨_,rfl⟩,q⟩
theorem opI0{f:Value->Value->Sem Value}{g:Int->Int->Int}
  (rule:∀(i j:Int)(t u:Tok)(s:Shared)(Q:Value->Shared->Prop)(E:Value->Shared->Prop),Q (.int (g i j) s.toks) {s with toks:=s.toks+1}->wpAny (model X.prog X.w) X.A (f (.int i t) (.int j u)) Q E s):
  OpR X f (rI0 fun i j=>.int (g i j)):=by
 intro pins s σ H x y v u Q I rx ry h;obtain⟨i,j,rfl,rfl,q⟩:=h;obtain⟨t,rfl⟩:=rx;obtain⟨t',rfl⟩:=ry;exact rule i j t t' s _ _ ⟨.int (g i j),H,I.tok _,⟨_,rfl⟩,q⟩
theorem opB0{f:Value->Value->Sem Value}{g:Int->Int->Bool}
  (rule:∀(i j:Int)(t u:Tok)(s:Shared)(Q:Value->Shared->Prop)(E:Value->Shared->Prop),Q (.bool (g i j)) s->wpAny (model X.prog X.w) X.A (f (.int i t) (.int j u)) Q E s):
  OpR X f (rI0 fun i j=>.bl (g i j)):=by
 intro pins s σ H x y v u Q I rx ry h;obtain⟨i,j,rfl,rfl,q⟩:=h;obtain⟨t,rfl⟩:=rx;obtain⟨t',rfl⟩:=ry;exact rule i j t t' s _ _ ⟨.bl (g i j),H,I,rfl,q⟩
noncomputable def CDiv(i j:Int):Prop:=0<j/\j<1073741824
noncomputable def yl(i j:Int):Prop:=0<=j/\j<=1000000/\i.natAbs<2^64
noncomputable def pH(i j:Int):Prop:=(-(2^64)<i/\i<2^64)\/(-(2^64)<j/\j<2^64)
theorem pH.ok{i j:Int}(h:pH i j):IntMulOk i j:=by
 rcases h with⟨h1,h2⟩ |⟨h1,h2⟩
 ·exact .of_left (intBits_le_64 h1 h2)
 ·exact .of_right (intBits_le_64 h1 h2)
theorem uL(k:Nat):(0:Int)<=2^k:=by
 rw[two_pow_cast];exact Int.natCast_nonneg _
theorem op_add:OpR X (cB .Add) (rI0 fun i j=>.int (i+j)):=opI0 fun _ _ _ _ _ _ _ q=>add_int q
theorem op_sub:OpR X (cB .Sub) (rI0 fun i j=>.int (i-j)):=opI0 fun _ _ _ _ _ _ _ q=>sub_int q
theorem op_mul:OpR X (cB .Mult) (rI pH fun i j=>.int (i*j)):=opI fun _ _ _ _ _ _ _ hc q=>mul_int q hc.ok
theorem op_fdiv:OpR X (cB .FloorDiv) (rI CDiv fun i j=>.int (i/j)):=opI fun i j _ _ _ _ _ hc q=>by
 have h1:(0:Int)<j:=hc.1;have h2:j<1073741824:=hc.2;exact floordiv_int (by omega) (by rw[uq i (by omega)];exact q) (.inl (PyProof.noPylong_small (by omega)))
theorem op_mod:OpR X (cB .Mod) (rI (fun _ j=>0<j) fun i j=>.int (i%j)):=opI fun i j _ _ _ _ _ hc q=>by
 have h1:(0:Int)<j:=hc;exact mod_int' (by omega) (by rw[Int.fmod_eq_emod_of_nonneg i (by omega)];exact q)
theorem op_pow:OpR X (cB .Pow) (rI yl fun i j=>.int (i^j.toNat)):=opI fun _ _ _ _ _ _ _ hc q=>pow_int_small hc.1 hc.2.1 hc.2.2 q
theorem op_shl:OpR X (cB .LShift) (rI yl fun i j=>.int (i*2^j.toNat)):=opI fun _ _ _ _ _ _ _ hc q=>lshift_int_small hc.1 hc.2.1 hc.2.2 q
theorem op_shr:OpR X (cB .RShift) (rI (fun _ j=>0<=j) fun i j=>.int (i/2^j.toNat)):=opI fun i j _ _ _ _ _ hc q=>
 rshift_int hc (by rw[uq i (uL _)];exact q)
theorem op_and:OpR X (cB .BitAnd) (rI0 fun i j=>.int (Builtin.bitAnd i j)):=opI0 fun _ _ _ _ _ _ _ q=>and_int q
theorem op_xor:OpR X (cB .BitXor) (rI0 fun i j=>.int (Builtin.bitXor i j)):=opI0 fun _ _ _ _ _ _ _ q=>xor_int q
theorem unI{f:Value->Sem Value}{g:Int->Int}
  (rule:∀(i:Int)(t:Tok)(s:Shared)(Q:Value->Shared->Prop)(E:Value->Shared->Prop),Q (.int (g i) s.toks) {s with toks:=s.toks+1}->wpAny (model X.prog X.w) X.A (f (.int i t)) Q E s):
  UnR X f (rU fun i=>.int (g i)):=by
 intro pins s σ H x v Q I rx h;obtain⟨i,rfl,q⟩:=h;obtain⟨t,rfl⟩:=rx;exact rule i t s _ _ ⟨.int (g i),H,I.tok _,⟨_,rfl⟩,q⟩
theorem un_neg:UnR X (unaryOp .USub) (rU fun i=>.int (-i)):=unI fun _ _ _ _ _ q=>neg_int q
end
section
variable {X:Cx}{a b c:Expr}{ta tb tc:TE}{pos:Pos}
theorem oy{pins:List (Addr×Obj)}{σ:St}{H:Hp}{s:Shared}{Q:VK}{k k':Bool}(I:Inv X pins σ H s)(q:Q (.bl k) H)(e:k=k'):EP X pins σ Q (.bool k') s:=by
 subst e;exact⟨.bl k,H,I,rfl,q⟩
theorem op_lt:OpR X (bV .Lt) (rI0 fun i j=>.bl (decide (i<j))):=opB0 fun _ _ _ _ _ _ _ q=>lt_int q
theorem op_le:OpR X (bV .LtE) (rI0 fun i j=>.bl (decide (i<=j))):=opB0 fun _ _ _ _ _ _ _ q=>le_int q
theorem op_gt:OpR X (bV .Gt) (rI0 fun i j=>.bl (decide (j<i))):=opB0 fun _ _ _ _ _ _ _ q=>gt_int q
theorem op_ge:OpR X (bV .GtE) (rI0 fun i j=>.bl (decide (j<=i))):=opB0 fun _ _ _ _ _ _ _ q=>ge_int q
theorem xI:OpR X (bV .In) (fun x y H Q=>∃i j,x=.str i/\y=.str j/\Q (.bl (!(bS j i 0 j.length 1).isEmpty)) H):=by
 intro pins s σ H x y v u Q I rx ry h;obtain⟨i,j,rfl,rfl,q⟩:=h;obtain⟨t,rfl⟩:=rx;obtain⟨t',rfl⟩:=ry;exact in_str (oy I q rfl)
theorem op_isN:OpR X (bV .Is) (fun x y H Q=>y=.non/\Q (.bl (decide (x=.non))) H):=by
 intro pins s σ H x y v u Q I rx ry h;obtain⟨rfl,q⟩:=h;cases ry;refine is_none_gen (oy I q ?_);cases x<;>first
  | (cases rx;rfl)
  | (obtain⟨t,rfl⟩:=rx;rfl)
theorem op_notN:OpR X (bV .IsNot) (fun x y H Q=>y=.non/\Q (.bl (!decide (x=.non))) H):=by
 intro pins s σ H x y v u Q I rx ry h;obtain⟨rfl,q⟩:=h;cases ry;refine isnot_none_gen (oy I q ?_);cases x<;>first
  | (cases rx;rfl)
  | (obtain⟨t,rfl⟩:=rx;rfl)
theorem OpR.or{f:Value->Value->Sem Value}{r r':R2}(h:OpR X f r)(h':OpR X f r'):OpR X f (fun x y H Q=>r x y H Q\/r' x y H Q):=by
 intro pins s σ H x y v u Q I rx ry q;rcases q with q|q
 ·exact h pins s σ H x y v u Q I rx ry q
 ·exact h' pins s σ H x y v u Q I rx ry q
theorem wj{op:CmpOp}{r:R2}(ho:OpR X (bV op) r)(ha:PE X a ta)(hb:PE X b tb)(hm:AY op b=false):PE X (.Compare a [op] [b] pos) (tOp r ta tb):=by
 intro pins s σ H Q I h;exact wpAny_Compare1 (binT ha hb I h fun v u s2 x y H2 I2 rx ry q=>ho pins s2 σ H2 x y v u Q I2 rx ry q) hm
noncomputable def sD(t:TE):TT:=fun σ H Q=>t σ H fun x H'=>∃k,x=.bl k/\Q k H'
theorem pt_cmpR{op:CmpOp}{r:R2}(ho:OpR X (bV op) r)(ha:PE X a ta)(hb:PE X b tb)(hm:AY op b=false):PT X (.Compare a [op] [b] pos) (sD (tOp r ta tb)):=by
 intro pins s σ H Q I h;refine wpAny_isTrue_Compare1 (thn (ha pins s σ H _ I h) fun v s1 ⟨x,H1,I1,r1,q1⟩=>thn (hb pins s1 σ H1 _ I1 q1) fun u s2 ⟨y,H2,I2,r2,q2⟩=>
  thn (ho pins s2 σ H2 x y v u _ I2 r1 r2 q2) fun c s3 ⟨z,H3,I3,r3,k,e,q3⟩=>?_) hm
 subst e;cases r3;exact cj ⟨H3,I3,q3⟩
noncomputable def m8(r r':R2)(ta tb tc:TE):TE:=fun σ H Q=>ta σ H fun x H1=>tb σ H1 fun y H2=>r x y H2 fun z H3=>∃k,z=.bl k/\
 (if k=true then tc σ H3 fun w' H4=>r' y w' H4 Q else Q (.bl false) H3)
theorem zS{op op':CmpOp}{r r':R2}(ho:OpR X (bV op) r)(ho':OpR X (bV op') r')(ha:PE X a ta)(hb:PE X b tb)(hc:PE X c tc)
  (hm:lastMarks [op,op'] [b,c]=false:=by with_unfolding_all rfl):PE X (.Compare a [op,op'] [b,c] pos) (m8 r r' ta tb tc):=by
 intro pins s σ H Q I h;refine Compare_chain (thn (ha pins s σ H _ I h) fun v s1 ⟨x,H1,I1,r1,q1⟩=>chain_link (thn (hb pins s1 σ H1 _ I1 q1) fun u s2 ⟨y,H2,I2,r2,q2⟩=>
  thn (ho pins s2 σ H2 x y v u _ I2 r1 r2 q2) fun d s3 ⟨z,H3,I3,r3,k,e,q3⟩=>?_)) hm
 subst e;cases r3;refine cj ?_;cases k with
 |false=>exact ite_ff ⟨.bl false,H3,I3,rfl,q3⟩
 |true=>exact ite_tt (chain_last (thn (hc pins s3 σ H3 _ I3 q3) fun w' s4 ⟨z',H4,I4,r4,q4⟩=>ho' pins s4 σ H4 y z' u w' Q I4 r2 r4 q4))
theorem zD{op op':CmpOp}{r r':R2}(ho:OpR X (bV op) r)(ho':OpR X (bV op') r')(ha:PE X a ta)(hb:PE X b tb)(hc:PE X c tc)
  (hm:lastMarks [op,op'] [b,c]=false:=by with_unfolding_all rfl):PT X (.Compare a [op,op'] [b,c] pos) (sD (m8 r r' ta tb tc)):=by
 intro pins s σ H Q I h;refine isTrue_chain (thn (ha pins s σ H _ I h) fun v s1 ⟨x,H1,I1,r1,q1⟩=>test_link (thn (hb pins s1 σ H1 _ I1 q1) fun u s2 ⟨y,H2,I2,r2,q2⟩=>
  thn (ho pins s2 σ H2 x y v u _ I2 r1 r2 q2) fun d s3 ⟨z,H3,I3,r3,k,e,q3⟩=>?_)) hm
 subst e;cases r3;refine cj ?_;cases k with
 |false=>
  obtain⟨k',e',q'⟩:=q3;cases e';exact ite_ff ⟨H3,I3,q'⟩
 |true=>
  refine ite_tt (test_last (thn (hc pins s3 σ H3 _ I3 q3) fun w' s4 ⟨z',H4,I4,r4,q4⟩=>thn (ho' pins s4 σ H4 y z' u w' _ I4 r2 r4 q4) fun d' s5 ⟨z2,H5,I5,r5,k2,e2,q5⟩=>?_));subst e2;cases r5;exact cj ⟨H5,I5,q5⟩
noncomputable def TruV(K:aa)(x:V)(H:Hp)(k:Bool):Prop:=
 match x with
 |.non=>k=false
 |.bl b=>k=b
 |.int i=>k=(i != 0)
 |.str y=>y.length<=sizeLine/\k=((y.length:Int) != 0)
 |.byt y=>y.size<=sizeLine/\k=((y.size:Int) != 0)
 |.ref p=>(∃xs,SqL K H p xs/\k= !xs.isEmpty)\/(∃xs,SqT K H p xs/\k= !xs.isEmpty)\/∃kvs,H p=some (.dK kvs)/\k= !kvs.isEmpty
 |_=>False
theorem vn{κ:Type}{kvs:List (κ×V)}{vs:List (κ×Value)}(r:KV kvs vs):(!vs.isEmpty)= !kvs.isEmpty:=by
 cases r<;>rfl
theorem og{xs:List V}{its:List Value}(r:bp xs its):(!its.toArray.isEmpty)= !xs.isEmpty:=by
 cases r<;>simp
theorem jU:(sizeLine:Nat)<2^63:=by rw[sizeLine_eq];decide
theorem tru_ok:TruR X (fun x H Q=>∃k,TruV X.K x H k/\Q k H):=by
 intro pins s σ H x v Q I rx h;obtain⟨k,e,q⟩:=h;have hl:=jU;have hs:sizeLine=16777216:=sizeLine_eq;cases x with
 |non=>
  cases rx;have e':k=false:=e;subst e';exact truthy_none ⟨H,I,q⟩
 |bl b=>
  cases rx;have e':k=b:=e;subst e';exact cj ⟨H,I,q⟩
 |int i=>
  obtain⟨t,rfl⟩:=rx;have e':k=(i != 0):=e;subst e';exact PySem.P.truthy_int ⟨H,I,q⟩
 |str y=>
  obtain⟨t,rfl⟩:=rx;obtain⟨hy,e'⟩:y.length<=sizeLine/\k=((y.length:Int) != 0):=e;subst e';exact PySem.P.truthy_str (by omega) ⟨H,I.tok _,q⟩
 |byt y=>
  obtain⟨t,rfl⟩:=rx;obtain⟨hy,e'⟩:y.size<=sizeLine/\k=((y.size:Int) != 0):=e;subst e';exact PySem.W.truthy_bytes (by omega) ⟨H,I.tok _,q⟩
 |ref p=>
  cases rx;have e':(∃xs,SqL X.K H p xs/\k= !xs.isEmpty)\/(∃xs,SqT X.K H p xs/\k= !xs.isEmpty)\/∃kvs,H p=some (.dK kvs)/\k= !kvs.isEmpty:=e;rcases e' with⟨xs,hx,e'⟩ |⟨xs,hx,e'⟩ |⟨kvs,hx,e'⟩
  ·subst e'
   obtain⟨its,r,pl,hz⟩:=I.list hx;have hlen:=r.length;exact wpAny_truthy_list pl.isList (by simp only[ax];omega) ⟨H,I.tok _,by rw[og r];exact q⟩
  ·subst e'
   obtain⟨its,r,pl,hz⟩:=I.tuple hx;have hlen:=r.length;exact truthy_tuple pl (by simp only[ax];omega) ⟨H,I.tok _,by rw[og r];exact q⟩
  ·subst e'
   obtain⟨hz,hS,vs,r,m⟩:kvs.length<=sizeLine/\(p==kW)=false/\∃vs,KV kvs vs/\s.heap.DictOf (de X.prog X.w) p vs:=I.hok p _ hx;have hlen:kvs.length=vs.length:=si r;exact wpAny_truthy_dict hS m (by omega) ⟨H,I.tok _,by rw[vn r];exact q⟩
 |_=>exact(show False from e).elim
theorem kq(ha:PE X a ta)(he:∀whole,isTrue a X.env whole=(do let v<-whole;rV a.pos;holding [v] (truthy v))):
  PT X a (fun σ H Q=>ta σ H fun x H'=>∃k,TruV X.K x H' k/\Q k H'):=by
 intro pins s σ H Q I h;exact isTrue_plain (thn (ha pins s σ H _ I h) fun v s1 ⟨x,H1,I1,r1,q1⟩=>tru_ok pins s1 σ H1 x v Q I1 r1 q1) (he _)
theorem vf:OpR X (cB .Add) (fun x y H Q=>∃i j,x=.str i/\y=.str j/\i.length+j.length<=sizeLine/\Q (.str (i++j)) H):=by
 intro pins s σ H x y v u Q I rx ry h;obtain⟨i,j,rfl,rfl,hz,q⟩:=h;obtain⟨t,rfl⟩:=rx;obtain⟨t',rfl⟩:=ry;exact add_str (fun t' tk=>⟨.str (i++j),H,I.tok _,⟨_,rfl⟩,q⟩) hz
theorem vals1{x:V}{us:List Value}(r:bp [x] us):∃u,us=[u]/\RelV x u:=by
 cases r with
 |cons r1 r2=>cases r2;exact⟨_,rfl,r1⟩
theorem yc:eK X (.type "int") (fun xs H Q=>(∃i,xs=[.int i]/\Q (.int i) H)\/∃k,xs=[.bl k]/\Q (.int (if k then 1 else 0)) H):=by
 intro pins s σ H xs us Q I r h;rcases h with⟨i,rfl,q⟩ |⟨k,rfl,q⟩
 ·obtain⟨u,rfl,t,rfl⟩:=vals1 r
  exact call_int_int ⟨.int i,H,I,⟨_,rfl⟩,q⟩
 ·obtain⟨u,rfl,r1⟩:=vals1 r
  cases r1;exact call_int_bool ⟨.int (if k then 1 else 0),H,I.tok _,⟨_,rfl⟩,q⟩
end
structure ObjM(h:Heap)(x dx C:Addr)(mA:Str->Option Value):Prop where
 obj:h.get? x=some (o5 C dx)
 ns:h.Ns1 dx mA
 ne:dx≠x
theorem xO{h:Heap}{dx:Addr}{mA:Str->Option Value}(n:h.Ns1 dx mA):∃od,h.get? dx=some od/\∀name,pJ name od=some (mA name):=by
 obtain⟨o,es,ep,ho,hd,hk,_,hm⟩:=n;refine⟨o,ho,fun name=>?_⟩;have e:=hm name;unfold nsFind findBy at e;rw[<-lX]at e;unfold pJ;rw[hd];dsimp only;split
 ·rename_i y q
  rw[q]at e;exact congrArg some e
 ·rename_i q
  rw[q]at e;have a:es.toList.any (·.refKey)=false:=by
   rw[List.any_eq_false];intro y hy;obtain⟨z,t,hkey⟩:=hk y (Array.mem_toList_iff.mp hy);simp[DictEntry.refKey,hkey]
  have a':¬es.toList.any (·.refKey)=true:=by rw[a];exact aP
  rw[if_neg a'];exact congrArg some e
theorem ObjM.look{h:Heap}{x dx C:Addr}{mA:Str->Option Value}(I:ObjM h x dx C mA):∃od,PySem.W.InstAt h x (o5 C dx) C (some od)/\∀name,pJ name od=some (mA name):=
 let⟨od,ho,hl⟩:=xO I.ns
 ⟨od,⟨I.obj,rfl,rfl,ho⟩,hl⟩
noncomputable def mD(f:Str)(v:V):List (Str×V)->List (Str×V)
 | []=>[(f,v)]
 | (g,x)::r=>if g=f then(g,v)::r else(g,x)::mD f v r
theorem l8(f g:Str)(v:V):∀fs:List (Str×V),(mD f v fs).lookup g=if g=f then some v else fs.lookup g
 | []=>by
  show bD g [(f,v)]=_;by_cases h:g=f
  ·have hb:(g==f)=true:=beq_iff_eq.mpr h
   simp only[bD,hb,if_pos h]
  ·have hb:(g==f)=false:=beq_eq_false_iff_ne.mpr h
   simp only[bD,hb,if_neg h]
 | (k,x)::r=>by
  have ih:=l8 f g v r;rw[show mD f v ((k,x)::r)=(if k=f then(k,v)::r else(k,x)::mD f v r)from rfl];by_cases hk:k=f
  ·rw[if_pos hk]
   by_cases h:g=k
   ·have hb:(g==k)=true:=beq_iff_eq.mpr h
    simp only[bD,hb,if_pos (h.trans hk)]
   ·have hb:(g==k)=false:=beq_eq_false_iff_ne.mpr h
    simp only[bD,hb,if_neg (fun e:g=f=>h (e.trans hk.symm))]
  ·rw[if_neg hk]
   by_cases h:g=k
   ·have hb:(g==k)=true:=beq_iff_eq.mpr h
    simp only[bD,hb,if_neg (fun e:g=f=>hk (h.symm.trans e))]
   ·have hb:(g==k)=false:=beq_eq_false_iff_ne.mpr h
    simp only[bD,hb];exact ih
theorem lG(f:Str)(v:V):∀fs:List (Str×V),f∈(mD f v fs).map (·.1)/\∀g,g∈fs.map (·.1)->g∈(mD f v fs).map (·.1)
 | []=>⟨by simp[mD],fun g h=>by simp at h⟩
 | (k,x)::r=>by
  obtain⟨i1,i2⟩:=lG f v r;rw[show mD f v ((k,x)::r)=(if k=f then(k,v)::r else(k,x)::mD f v r)from rfl];by_cases hk:k=f
  ·rw[if_pos hk]
   subst hk;exact⟨by simp,fun g h=>by simpa using h⟩
  ·rw[if_neg hk]
   refine⟨?_,fun g h=>?_⟩
   ·rw[bo]
    exact aw _ i1
   ·rw[bo]at h⊢
    rcases aA.mp h with e|e
    ·exact aA.mpr (.inl e)
    ·exact aw _ (i2 g e)
theorem mI.some_of{v:V}{o:Option Value}(r:mI (some v) o):∃u,o=some u/\RelV v u:=by
 cases o with
 |none=>exact(show False from r).elim
 |some u=>exact⟨u,rfl,r⟩
section
variable {P:Program}{w:World}{H H':Hp}{h h':Heap}{a C dx:Addr}{fs fs':List (Str×V)}
theorem ins_get(hok:HOk P w H h)(e:H a=some (.ins C dx fs)):∃mA,ObjM h a dx C mA/\(∀f,mI (fs.lookup f) (mA f))/\gA mA (fs.map (·.1))/\fs.length<=1000/\H dx=some (.own a):=by
 obtain⟨d,z,ne,ob,mA,n,r,q⟩:=(show cW P w H h a (.ins C dx fs)from hok a _ e);exact⟨mA,⟨ob,n,ne⟩,r,q,z,d⟩
end
structure Cls(K:aa)(C:Addr):Prop where
 pg:A0 K C d9=true
 hd:PySem.W.hasDictIn K C=true
 po:PySem.W.plainOver K C=true
 sa:eO K (.ref C) "__setattr__"=some (some (.builtin "object.__setattr__"))
theorem Cls.get{K:aa}{C:Addr}(c:Cls K C)(f:Str):A0 K C f=true:=c.pg
section
variable {X:Cx}{pins:List (Addr×Obj)}{σ:St}{H:Hp}{s:Shared}{A:Around}{E:Value->Shared->Prop}{Q:Value->Shared->Prop}{c:Value}{b:Bool}
inductive iJ (K:aa) (H:Hp):V->Value->Prop where
 |non:iJ K H .non (.type "NoneType")
 |bl (x:Bool):iJ K H (.bl x) (.type "bool")
 |int (i:Int):iJ K H (.int i) (.type "int")
 |str (x:Str):iJ K H (.str x) (.type "str")
 |flt (x:UInt64):iJ K H (.flt x) (.type "float")
 |lst {a:Addr} {xs:List V} (e:H a=some (.lst xs)):iJ K H (.ref a) (.type "list")
 |frz {a:Addr} {o:Obj} {xs:List V} (e:H a=some (.frz o (.lst xs))):iJ K H (.ref a) (.type "list")
 |tup {a:Addr} {xs:List V} (e:H a=some (.tup xs)):iJ K H (.ref a) (.type "tuple")
 |dK {a:Addr} {kvs:List (Key×V)} (e:H a=some (.dK kvs)):iJ K H (.ref a) (.type "dict")
 |dT {a:Addr} {kvs:List (List Key×V)} (e:H a=some (.dT kvs)):iJ K H (.ref a) (.type "dict")
 |ins {a C dx:Addr} {fs:List (Str×V)} (e:H a=some (.ins C dx fs)) (cl:Cls K C) (ha:eO K (.ref C) "__class__"=some (some (.builtin "object.__class__")))
   (hn:lP K (.builtin "object.__class__") "__get__"=some (some (.builtin "getset_descriptor.__get__"))) (htk:PySem.W.takesIn K (.builtin "object.__class__")=some true)
   (hm:r6 K C (.type "object")=some true):iJ K H (.ref a) (.ref C)
theorem qh{x:V}{u t:Value}(I:Inv X pins σ H s)(rx:RelV x u)(ty:iJ X.K H x t)(e:a6 X.K t c=some b)(h:∀tk,Q (.bool b) {s with toks:=tk}):
  wpAny (model X.prog X.w) A (call (.builtin "isinstance") [u,c]) Q E s:=by
 cases ty with
 |non=>cases(show u=cL from rx);exact bR PySem.W.kitx_none I.kIn True.intro e (fun z=>nomatch z) h
 |bl y=>cases(show u=rY y from rx);exact bR PySem.W.kitx_bool I.kIn True.intro e (fun z=>nomatch z) h
 |int i=>obtain⟨t,q⟩:=(show ∃t,u=uw i t from rx);cases q;exact bR PySem.W.kitx_int I.kIn True.intro e (fun z=>nomatch z) h
 |str y=>obtain⟨t,q⟩:=(show ∃t,u=uu y t from rx);cases q;exact bR PySem.W.kitx_str I.kIn True.intro e (fun z=>nomatch z) h
 |flt y=>obtain⟨t,q⟩:=(show ∃t,u=Value.float y t from rx);cases q;exact bR PySem.W.kitx_float I.kIn True.intro e (fun z=>nomatch z) h
 | @lst a xs ea=>
  cases(show u=bg a from rx);obtain⟨_,_,n,_,h1⟩:=(show cW X.prog X.w H s.heap a (.lst xs)from I.hok a _ ea);exact bR yv I.kIn ⟨_,h1,rfl⟩ e (fun z=>nomatch z) h
 | @frz a ob xs ea=>
  cases(show u=bg a from rx);obtain⟨_,_,_,n,_,h1⟩:=(show cW X.prog X.w H s.heap a (.frz ob (.lst xs))from I.hok a _ ea);exact bR yv I.kIn ⟨_,h1,rfl⟩ e (fun z=>nomatch z) h
 | @tup a xs ea=>
  cases(show u=bg a from rx);obtain⟨_,_,_,p⟩:=(show cW X.prog X.w H s.heap a (.tup xs)from I.hok a _ ea);obtain⟨o,h1,h2,_⟩:=p;exact bR PySem.W.kitx_tuple I.kIn ⟨o,h1,h2⟩ e (fun z=>nomatch z) h
 | @dK a kvs ea=>
  cases(show u=bg a from rx);obtain⟨_,_,vs,_,p⟩:=(show cW X.prog X.w H s.heap a (.dK kvs)from I.hok a _ ea);obtain⟨o,es,ep,h1,h2,_⟩:=p;exact bR yw I.kIn ⟨o,h1,h2.1⟩ e (fun z=>nomatch z) h
 | @dT a kvs ea=>
  cases(show u=bg a from rx);obtain⟨_,_,xs,_,o,es,ep,h1,h2,_⟩:=(show cW X.prog X.w H s.heap a (.dT kvs)from I.hok a _ ea);exact bR yw I.kIn ⟨o,h1,h2.1⟩ e (fun z=>nomatch z) h
 | @ins a C dx fs ea cl ha hn htk hm=>
  cases(show u=bg a from rx);obtain⟨mA,O,_⟩:=ins_get I.hok ea;obtain⟨od,J,_⟩:=O.look;exact bR (PySem.W.kitx_own (cl.get _) cl.hd ha hn htk hm) I.kIn J e (fun z=>nomatch z) h
end
structure fK(k:Nat)(A:Around):Prop where
 hd:A.handled=none
 dp:A.depth+3*k+5<recursionLimit
 un:A.units+16*k+200<cLine
theorem fK.mono{j k:Nat}{A:Around}(r:fK k A)(h:j<=k):fK j A:=⟨r.hd,by have :=r.dp;omega,by have :=r.un;omega⟩
theorem fK.deeper{k:Nat}{A:Around}(r:fK (k+1) A)(env:Env):fK k (A.deeper env):=
 ⟨r.hd,by have :=r.dp;show A.depth+1+3*k+5<_;omega,by have :=r.un;show A.units+3+16*k+200<_;omega⟩
theorem vj{A:Around}{C:Addr}{us:List Value}{kw:List (Str×Value)}:(A.under (.builtin "type.__call__" ⟨.ref C::us,kw⟩)).depth=A.depth+1:=by
 first |rfl|simp[uD,Code.weight,Code.isCreation,Code.isGuard,Code.isCaller,Code.frames,w9,guardIds]
theorem vi{A:Around}{C:Addr}{us:List Value}{kw:List (Str×Value)}:(A.under (.builtin "type.__call__" ⟨.ref C::us,kw⟩)).units=A.units+1:=by
 first |rfl|simp[uD,Code.cUnits,Code.frames,w9]
theorem fK.make{k:Nat}{A:Around}(r:fK (k+1) A)(C:Addr)(us:List Value)(kw:List (Str×Value)):fK k (A.under (.builtin "type.__call__" ⟨.ref C::us,kw⟩)):=
 ⟨r.hd,by have :=r.dp;rw[vj];omega,by have :=r.un;rw[vi];omega⟩
theorem fK.depth{k:Nat}{A:Around}(r:fK k A):A.depth<recursionLimit:=by have :=r.dp;omega
theorem fK.units{k:Nat}{A:Around}(r:fK k A):A.units+64<cLine:=by have :=r.un;omega
noncomputable def pk:TA:=fun _ H Q=>Q [] H
noncomputable def iR(ta:TE)(tr:TA):TA:=fun σ H Q=>ta σ H fun x H1=>tr σ H1 fun xs H2=>Q (x::xs) H2
section
variable {X:Cx}{e:Expr}{es:List Expr}{te:TE}{t:TA}{pos:Pos}
theorem hO:PA X [] pk:=fun _ _ _ _ H Q I h=>Calls.spliced_nil ⟨[],H,I,.nil,h⟩
theorem eD(ha:PE X e te)(hr:PA X es t)(hs:aB (e::es) X.env=(false,eval e X.env)::aB es X.env:=by rfl):PA X (e::es) (iR te t):=by
 intro pos pins s σ H Q I h;rw[hs];show wpAny _ _ (spliced ((false,eval e X.env)::backTo pos (aB es X.env))) _ _ s;refine eN (thn (ha pins s σ H _ I h) fun u s1 ⟨x,H1,I1,r1,q1⟩=>?_);exact thn (hr pos pins s1 σ H1 _ I1 q1) fun us s2 ⟨xs,H2,I2,r2,q2⟩=>⟨x::xs,H2,I2,.cons r1 r2,q2⟩
noncomputable def tTup(t:TA):TE:=fun σ H Q=>t σ H fun xs H1=>xs.length<=sizeLine/\∀p,H1 p=none->Q (.ref p) (upd H1 p (.tup xs))
noncomputable def yR(t:TA):TE:=fun σ H Q=>t σ H fun xs H1=>xs.length<=sizeLine/\∀p,H1 p=none->Q (.ref p) (upd H1 p (.lst xs))
theorem zL{x1}(h:PA X es t):PE X (.Tuple es x1 pos) (tTup t):=by
 intro pins s σ H Q I hq;refine wpAny_Tuple_spliced (thn (h pos pins s σ H _ I hq) fun us s1 ⟨xs,H1,I1,r,z,q⟩=>⟨by rw[<-r.length];exact z,?_⟩);have hf:H1 s1.heap.objs.size=none:=I1.hok.fresh (ao _);refine⟨.ref s1.heap.objs.size,upd H1 s1.heap.objs.size (.tup xs),I1.laid (t':=s1.toks) (fun b u e=>ai _ e) (ao _) ?_,rfl,q _ hf⟩;exact⟨z,us,r,⟨_,aO _ rfl,rfl,_,rfl⟩⟩
theorem qU(h:PA X es t):PE X (.List es pos) (yR t):=by
 intro pins s σ H Q I hq;refine wpAny_List_spliced (thn (h pos pins s σ H _ I hq) fun us s1 ⟨xs,H1,I1,r,z,q⟩=>⟨by rw[<-r.length];exact z,?_⟩);have hf:H1 s1.heap.objs.size=none:=I1.hok.fresh (ao _);refine⟨.ref s1.heap.objs.size,upd H1 s1.heap.objs.size (.lst xs),I1.laid (t':=s1.toks) (fun b u e=>ai _ e) (ao _) ?_,rfl,q _ hf⟩;exact⟨z,us,0,r,aO _ rfl⟩
end
noncomputable abbrev Sp:=List V->Hp->VK->XK->Prop
noncomputable abbrev CXT:=List Env->Hp->Shared->XK->Value->Shared->Prop
structure vH(P:Program)(w:World)(K:aa)(mg:Str->Option Value)(base:Heap)(A:Around)(outer:List Env)(s:Shared)(H:Hp):Prop where
 frames:A.frames=some outer
 mod:Mod K mg base
 bs:∀b o,base.get? b=some o->s.heap.get? b=some o/\H b=none
 bsz:base.objs.size<=s.heap.objs.size
 ou:s.heap.FunFrames base outer
 frf:∀b∈frs outer,H b=none
 hok:HOk P w H s.heap
 bare:jw s.gens
noncomputable def CE(outer:List Env)(P:Program)(w:World)(H:Hp)(s:Shared)(Q:VK)(u:Value)(s':Shared):Prop:=
 ∃v H',s'.os=s.os/\jw s'.gens/\Un (frs outer) [] H H' s.heap s'.heap/\HOk P w H' s'.heap/\RelV v u/\Q v H'
noncomputable def CR(CX:CXT)(outer:List Env)(P:Program)(w:World)(H:Hp)(s:Shared)(Q:VK)(E:XK)(r:Result)(s':Shared):Prop:=
 match r with
 |.ok (.ret u)=>CE outer P w H s Q u s'
 |.ok _=>False
 |.error e=>CX outer H s E e s'
structure gy(P:Program)(w:World)(K:aa)(mg:Str->Option Value)(base:Heap)(CX:CXT)(k:Nat)(f:Addr)(fd:dh)(ps:List Str)(sp:Sp):Prop where
 len:∀vs H Q E,sp vs H Q E->vs.length=ps.length
 run:∀(A:Around)(outer:List Env)(s:Shared)(H:Hp)(args:Args)(us:List Value)(vs:List V)(Q:VK)(E:XK),fK k A->vH P w K mg base A outer s H->BindsTo s fd args (ps.zip us)->bp vs us->sp vs H Q E->
  ic (model P w) A (.call (.ref f) args) (CR CX outer P w H s Q E) s
theorem vH.make{P:Program}{w:World}{K:aa}{mg:Str->Option Value}{base:Heap}{A:Around}{outer:List Env}{s:Shared}{H:Hp}(e:vH P w K mg base A outer s H)(C:Addr)(us:List Value)(kw:List (Str×Value)):
  vH P w K mg base (A.under (.builtin "type.__call__" ⟨.ref C::us,kw⟩)) outer s H:=⟨by first |exact e.frames| (simpa[uD,Code.envs,w9,pushEnvs]using e.frames),e.mod,e.bs,e.bsz,e.ou,e.frf,e.hok,e.bare⟩
section
variable {X:Cx}{pins:List (Addr×Obj)}{σ:St}{H:Hp}{s s':Shared}
theorem Inv.env0(I:Inv X pins σ H s):vH X.prog X.w X.K X.mg X.base X.A X.stack s H:=
 ⟨I.ok.frames,I.ok.mod,I.bs,au I.ok.bsz I.sz,I.stack,I.qD,I.hok,I.bare⟩
theorem Inv.after{Q:VK}{u:Value}(I:Inv X pins σ H s)(h:CE X.stack X.prog X.w H s Q u s'):EP X pins σ Q u s':=by
 obtain⟨v,H',os,bare,un,hok,r,q⟩:=h;obtain⟨hh,g,d,t,os'⟩:=s';obtain rfl:os'=s.os:=os;exact⟨v,H',I.call (h':=hh) (g':=g) (d':=d) (t':=t) (ch:=[]) un hok bare (fun b z=>absurd z (by simp)),r,q⟩
end
noncomputable def sG(sp:Sp)(dvs:List V)(E:XK)(t:TA):TE:=fun σ H Q=>t σ H fun vs H1=>sp (vs++dvs) H1 Q E
noncomputable def Binds(K:aa)(fd:dh)(ps:List Str)(ds:List Value):Prop:=
 ∀(s:Shared)(us:List Value),K.In s.heap->(us++ds).length=ps.length->BindsTo s fd ⟨us,[]⟩ (ps.zip (us++ds))
theorem Binds.all{K:aa}{fd:dh}{ps:List Str}(h:∀us:List Value,us.length=ps.length->bindArgs fd ⟨us,[]⟩=pure (ps.zip us)):Binds K fd ps []:=fun s us _ hl=>by
 rw[qA]at hl⊢;exact .of_eq (h us hl)
structure rR(N P:List Str)(sc:Scope):Prop where
 kind:sc.kind=.function
 co:sc.isCoroutine=false
 gen:sc.isGenerator=false
 nd:N.Nodup
 pre:N.take P.length=P
 par:∀x∈P,sc.names.lookup x=some .local\/sc.names.lookup x=some .cell
 nofree:∀y∈sc.names,y.2≠.free
theorem qr{kindOf:Str->Option cu}{x:Str}:∀{binds:List (Str×Value)}{m:Str->Option Value},(∀v,(x,v)∉binds)->bindL kindOf binds m x=m x
 | [],_,_=>rfl
 | (n,v)::r,m,h=>by
  unfold bindL;rw[qr fun w hw=>h w (aw _ hw)];split
  ·have :x≠n:=by rintro rfl;exact h v aq
   simp[this]
  ·rfl
theorem qu{kindOf:Str->Option cu}{x:Str}:∀{binds:List (Str×Value)}{m:Str->Option Value},(∀v,(x,v)∉binds)->bindC kindOf binds m x=m x
 | [],_,_=>rfl
 | (n,v)::r,m,h=>by
  unfold bindC;rw[qu fun w hw=>h w (aw _ hw)];split
  ·rfl
  ·have :x≠n:=by rintro rfl;exact h v aq
   simp[this]
theorem qt{kindOf:Str->Option cu}{x:Str}{v:Value}:∀{P:List Str}{vs:List Value}{i:Nat}{m:Str->Option Value},P.Nodup->P[i]? =some x->vs[i]? =some v->kindOf x=some .local->
  bindL kindOf (P.zip vs) m x=some v
 | [],_,_,_,_,h,_,_=>by simp at h
 |_::_,[],_,_,_,_,h,_=>by simp at h
 |p::P,w::vs,0,m,nd,h1,h2,hk=>by
  simp at h1 h2;subst h1;subst h2;show bindL kindOf ((p,w)::P.zip vs) m p=_;unfold bindL;rw[qr fun v hv=>(eM.mp nd).1 (qy hv).1,if_pos hk];simp
 |p::P,w::vs,i+1,m,nd,h1,h2,hk=>by
  show bindL kindOf ((p,w)::P.zip vs) m x=_;unfold bindL;exact qt (i:=i) (eM.mp nd).2 (by simpa using h1) (by simpa using h2) hk
theorem qv{kindOf:Str->Option cu}{x:Str}{v:Value}:∀{P:List Str}{vs:List Value}{i:Nat}{m:Str->Option Value},P.Nodup->P[i]? =some x->vs[i]? =some v->kindOf x≠some .local->
  bindC kindOf (P.zip vs) m x=some v
 | [],_,_,_,_,h,_,_=>by simp at h
 |_::_,[],_,_,_,_,h,_=>by simp at h
 |p::P,w::vs,0,m,nd,h1,h2,hk=>by
  simp at h1 h2;subst h1;subst h2;show bindC kindOf ((p,w)::P.zip vs) m p=_;unfold bindC;rw[qu fun v hv=>(eM.mp nd).1 (qy hv).1,if_neg hk];simp
 |p::P,w::vs,i+1,m,nd,h1,h2,hk=>by
  show bindC kindOf ((p,w)::P.zip vs) m x=_;unfold bindC;exact qv (i:=i) (eM.mp nd).2 (by simpa using h1) (by simpa using h2) hk
noncomputable def start(N:List Str)(vs:List V):St:=vs.map some++aV (N.length-vs.length) none
noncomputable def rF(CX:CXT)(P:Program)(w:World)(K:aa)(mg:Str->Option Value)(base:Heap)(N:List Str)(qual:Str)(scope:Scope)(f:Addr)(cd:Value)(A:Around)(outer:List Env)(s:Shared)(H:Hp)(E:XK):Cx where
 prog:=P
 w:=w
 K:=K
 mg:=mg
 base:=base
 A:=A.deeper (envOfC qual scope s.heap.objs.size f cd)
 N:=N
 s₀:=s
 H₀:=H
 env:=envOfC qual scope s.heap.objs.size f cd
 outer:=outer
 stack:=envOfC qual scope s.heap.objs.size f cd::outer
 ex:=[]
 calm:=true
 fn:=fun _=>true
 pn:=[]
 xe:=fun e s'=>wpAny (model P w) (A.deeper (envOfC qual scope s.heap.objs.size f cd)) (leaving (envOfC qual scope s.heap.objs.size f cd) e) (fun _ s''=>CX outer H s E e s'') (fun e' s''=>CX outer H s E e' s'') s'
theorem tU{sc:Scope}{n:Nat}{x:Str}(h:sc.names.lookup x=some .cell):∃c,(bx n sc.names []).lookup x=some c:=by
 have q:=um sc.names n [] (.inl h);exact bB.mp q
theorem xV{CX:CXT}{P:Program}{w:World}{K:aa}{mg:Str->Option Value}{base:Heap}{N ps:List Str}{qual:Str}{scope:Scope}{f:Addr}{cd:Value}{A:Around}{outer:List Env}{s s1:Shared}{H:Hp}{E:XK}{us:List Value}{vs:List V}
  (S:rR N ps scope)(hd:A.handled=none)(e0:vH P w K mg base A outer s H)(hl:vs.length=ps.length)(r:bp vs us)
  (x:InCallC s s.heap.objs.size (bindL (envOfC qual scope s.heap.objs.size f cd).kindOf (ps.zip us) fun _=>none) (bx (s.heap.objs.size+1) scope.names []) (bindC (envOfC qual scope s.heap.objs.size f cd).kindOf (ps.zip us) fun _=>none) s1):
  Inv (rF CX P w K mg base N qual scope f cd A outer s H E) [] (start N vs) H s1:=by
 have hpl:ps.length<=N.length:=by have :=congrArg ik S.pre;rw[bt]at this;omega
 obtain⟨h1,tk,rfl,hk⟩:=x.done;have noA:∀b:Addr,b∉(rF CX P w K mg base N qual scope f cd A outer s H E).ex:=fun b z=>absurd (show b∈([]:List Addr)from z) (by simp);refine⟨⟨e0.mod,S.kind,rfl,rfl,ao _,fun y z c h1 h2=>?_,fun y hy=>?_,fun y c _ h=>?_,fun _=>hd,Around.frames_deeper e0.frames,.inr ⟨rfl,rfl⟩,fun b z=>absurd z (noA b),e0.bs,e0.bsz,fun b _ _=>noA b,fun b z=>absurd z (noA b),e0.ou,e0.frf⟩,
  rfl,e0.bare,Un.kept hk,⟨_,x.toInCall.ns,fun i y v h1 h2 h3=>?_⟩,fun y c h=>⟨_,x.cell y c h⟩,e0.hok.fresh (ao _),fun y c h=>?_,fun p hp=>absurd (show p∈([]:List (Addr×Obj))from hp) (by simp),e0.hok.kept hk,?_⟩
 ·exact name_of_addr x.apart (aT h1) (aT h2)
 ·have hy:scope.names.lookup y=some .cell\/scope.names.lookup y=some .free:=hy
  rcases hy with hy|hy
  ·exact tU hy
  ·exact absurd rfl (S.nofree _ (aT hy))
 ·exact o7 (x.above y c (aT h))
 ·have hi:i<vs.length:=by
   unfold start at h2;by_cases hi:i<vs.length
   ·exact hi
   ·rw[cf (by simpa using hi)]at h2
    rw[List.getElem?_replicate]at h2;split at h2<;>cases h2
  have ha:vs[i]? =some v:=by
   unfold start at h2;rw[ck (by simpa using hi),bw]at h2;cases e:vs[i]? with
   |none=>rw[e]at h2;cases h2
   |some a=>rw[e]at h2;cases h2;rfl
  obtain⟨u,hu,rv⟩:=r.get ha;have hp:ps[i]? =some y:=by
   rw[<-S.pre,uA (by omega)];exact h1
  have ndP:ps.Nodup:=by rw[<-S.pre];exact S.nd.sublist (mY _ _)
  refine⟨u,rv,?_⟩;rcases S.par y (a7 hp)with k|k
  ·exact .inl ⟨k,qt ndP hp hu k⟩
  ·obtain⟨c,e⟩:=tU (n:=s.heap.objs.size+1) k
   refine .inr ⟨.inl k,c,e,?_⟩;have q:=x.cell y c e;rw[qv ndP hp hu (by show scope.names.lookup y≠_;rw[k];decide)]at q;exact q
 ·exact e0.hok.fresh (o7 (x.above y c (aT h)))
 ·unfold start
  show _=N.length;rw[aD,av,List.length_replicate];omega
theorem fn_of{CX:CXT}{P:Program}{w:World}{K:aa}{mg:Str->Option Value}{base:Heap}{k:Nat}{f:Addr}{name qual:Str}{params:Arguments}{body:List Stmt}{scope:Scope}{dV kV doc pm cdv ct oc:Value}{an od:Option Addr}
  {osl:Array (Option Value)}{N ps:List Str}{sp:Sp}(lk:K.lookup f=some ⟨oc,od,.func (aC name qual params body scope dV kV doc pm an cdv ct),osl⟩)(hcd:dH K cdv qual=true)(S:rR N ps scope)
  (len:∀vs H Q E,sp vs H Q E->vs.length=ps.length)
  (hbody:∀(A:Around)(outer:List Env)(s:Shared)(H:Hp)(vs:List V)(Q:VK)(E:XK),fK k (A.deeper (envOfC qual scope s.heap.objs.size f cdv))->sp vs H Q E->
   ∃t,PSs (rF CX P w K mg base N qual scope f cdv A outer s H E) body t/\t {nx:=fun _ H'=>Q .non H',rt:=Q} (start N vs) H):
  gy P w K mg base CX (k+1) f (aC name qual params body scope dV kV doc pm an cdv ct) ps sp:=by
 refine⟨len,fun A outer s H args us vs Q E hr e0 hb r hsp=>?_⟩;have hl:=len _ _ _ _ hsp;have KX:K.In s.heap:=e0.mod.kin.keeps fun b o e=>(e0.bs b o e).1;have lim:s.heap.NoLimit:=e0.mod.nolimit.keeps fun b o e=>(e0.bs b o e).1;have hkind:∀y∈ps.zip us,scope.names.lookup y.1=some .local\/(scope.names.lookup y.1=some .cell/\((bx (s.heap.objs.size+1) scope.names []).lookup y.1).isSome=true):=fun⟨n,v⟩ hy=>by
  rcases S.par n (qy hy).1 with q|q
  ·exact .inl q
  ·exact .inr ⟨q,um _ _ _ (.inl q)⟩
 refine codeAny_call_function hr.depth (KX _ _ lk) rfl S.co S.gen rfl (PySem.W.codeRec_of KX hcd) (hb _ _ _ _ ?_);refine wpAny_newFunctionEnv_cells S.kind hkind fun env he s1 x=>?_;subst he;refine⟨lim.keeps x.toInCall.keep,codeAny_func ?_⟩;obtain⟨t,ht,hq⟩:=hbody A outer s H vs Q E (hr.deeper _) hsp;have I:Inv (rF CX P w K mg base N qual scope f cdv A outer s H E) [] (start N vs) H s1:=xV S hr.hd e0 hl r x;refine bM (ht [] s1 (start N vs) H _ I hq) (fun fl s' hs=>?_) fun e s' hs=>hs;have fin:∀{σ':St}{H':Hp}{v:V}{u:Value},Inv (rF CX P w K mg base N qual scope f cdv A outer s H E) [] σ' H' s'->RelV v u->Q v H'->CE outer P w H s Q u s':=
  fun{σ' H' v u} J rv q=>⟨v,H',J.os,J.bare,J.base,J.hok,rv,q⟩
 cases fl with
 |ret u=>
  obtain⟨v,σ',H',J,rv,q⟩:=hs;exact fin J rv q
 |next =>
  obtain⟨σ',H',J,q⟩:=hs;exact fin (v:=V.non) (u:=cL) J rfl q
 |brk=>
  obtain⟨_,_,_,q⟩:=hs;exact dM q
 |cont=>
  obtain⟨_,_,_,q⟩:=hs;exact dM q
section
variable {X:Cx}{x:Str}{p pos:Pos}{e:Expr}{es:List Expr}{t:TA}{id T:String}{r:List V->Hp->VK->Prop}
noncomputable def tCB(r:List V->Hp->VK->Prop)(t:TA):TE:=fun σ H Q=>t σ H fun vs H1=>r vs H1 Q
theorem dS(hc:eK X (.builtin id) r)(hg:Gl X x)(hm:X.mg x=none)(hv:eL x=some (.builtin id))(ha:PA X (e::es) t)(hn:x≠"__name__":=by decide) (hdb:(x==("__debug__":Str))=false:=by decide)
  (he:aB (e::es) X.env=(false,eval e X.env)::aB es X.env:=by rfl) (hpl:(backTo pos (aB es X.env)).any (·.1)=false:=by rfl):PE X (.Call (.Name x p) (e::es) [] pos) (tCB r t):=by
 intro pins s σ H Q I h;refine cS (lE I hg hm hv ?_ hn hdb);exact kg (thn (ha pos pins s σ H _ I h) fun us s1 ⟨vs,H1,I1,r1,q1⟩=>hc pins s1 σ H1 vs us Q I1 r1 q1) he hpl
theorem ee(hc:eK X (.type T) r)(hg:Gl X x)(hm:X.mg x=none)(hv:eL x=some (.type T))(ha:PA X (e::es) t)(hn:x≠"__name__":=by decide) (hdb:(x==("__debug__":Str))=false:=by decide)
  (he:aB (e::es) X.env=(false,eval e X.env)::aB es X.env:=by rfl) (hpl:(backTo pos (aB es X.env)).any (·.1)=false:=by rfl):PE X (.Call (.Name x p) (e::es) [] pos) (tCB r t):=by
 intro pins s σ H Q I h;refine cS (lE I hg hm hv ?_ hn hdb);exact dm (thn (ha pos pins s σ H _ I h) fun us s1 ⟨vs,H1,I1,r1,q1⟩=>hc pins s1 σ H1 vs us Q I1 r1 q1) he hpl
end
end L2
namespace HT
open PySem PyProof.Rows
section
open PySem.SeqAt
open PySem.AutoSeq1 (wpAny_loadPart')
open PySem.MeetsSeq PySem.MeetsSeq2 PySem.MeetsSeq3
end
section
variable {prog:Program}{w:World}{A:Around}{E:Value->Shared->Prop}{s:Shared}
theorem cat_tup{t b:Addr}{vs ws:List Value}{Q:Value->Shared->Prop}(ht:IsTup s.heap t vs.toArray)(hb:IsTup s.heap b ws.toArray)(hv:vs≠[])
  (h1:ws=[]->Q (.ref t) s)(h2:ws≠[]->Q (.ref s.heap.objs.size) {s with heap:=s.heap.push {cls:=.type "tuple",data:=.seq (vs++ws).toArray}})
  (hsz:vs.length+ws.length<=sizeLine):wpAny (model prog w) A (cB .Add (.ref t) (.ref b)) Q E s:=by
 obtain⟨⟨cls,dd,data,sl⟩,ho,hc,n,hd⟩:=id ht;obtain⟨⟨cls2,dd2,data2,sl2⟩,ho2,hc2,n2,hd2⟩:=id hb;simp only at hc hd hc2 hd2;subst hc hd hc2 hd2;have e:vs.toArray++ws.toArray=(vs++ws).toArray:=by simp
 by_cases hw:ws=[]
 ·exact concat_meets ⟨_,ho,rfl⟩ ⟨_,ho2,rfl⟩ ui AX iO ig (gX _ _)
   (tuple_addW1 t b vs.toArray ws.toArray n n2 dd dd2 sl sl2 (by simpa using hv) (by simp[hw])) ⟨ho,ho2,h1 hw⟩
 ·refine concat_meets ⟨_,ho,rfl⟩ ⟨_,ho2,rfl⟩ ui AX iO ig (gX _ _)
   (tuple_addW2 t b vs.toArray ws.toArray n n2 dd dd2 sl sl2 (by simpa using hv) (by simpa using hw) (by rw[ax,ax];exact hsz)) ⟨ho,ho2,?_⟩
  rw[e];exact h2 hw
noncomputable def sIx(n d:Nat):Option Int->Nat
 |none=>d
 |some v=>if v<0 then(v+(n:Int)).toNat else min v.toNat n
theorem km(n d:Nat):sIx n d none=d:=rfl
theorem ko(n d k:Nat):sIx n d (some (k:Int))=min k n:=by
 show(if(k:Int)<0 then((k:Int)+(n:Int)).toNat else min (k:Int).toNat n)=min k n;rw[if_neg (by omega),Int.toNat_natCast]
theorem lq(n d:Nat)(hd:d<=n)(o:Option Int):sIx n d o<=n:=by
 cases o with
 |none=>exact hd
 |some v=>
  show(if v<0 then(v+(n:Int)).toNat else min v.toNat n)<=n;by_cases hv:v<0
  ·rw[if_pos hv];omega
  ·rw[if_neg hv];exact Nat.min_le_right _ _
theorem rG(v:Int)(n d:Nat):(if v<0 then max (v+(n:Int)) 0 else min v (n:Int))=((sIx n d (some v):Nat):Int):=by
 show(if v<0 then max (v+(n:Int)) 0 else min v (n:Int))=(((if v<0 then(v+(n:Int)).toNat else min v.toNat n):Nat):Int);by_cases hv:v<0
 ·simp only[if_pos hv];omega
 ·simp only[if_neg hv];omega
theorem vE(lo hi:Option Int)(n:Nat):fY lo hi 1 (n:Int)=(((sIx n 0 lo:Nat):Int),((sIx n n hi:Nat):Int)):=by
 have h1:¬((1:Int)<0):=by omega
 unfold fY;simp only[h1,if_false];refine Prod.ext ?_ ?_
 ·cases lo with
  |none=>rfl
  |some v=>exact rG v n 0
 ·cases hi with
  |none=>rfl
  |some v=>exact rG v n n
theorem u6(i j:Nat):dy (i:Int) (j:Int) 1=j-i:=by
 unfold dy;have h1:(1:Int)>0:=by omega
 simp only[h1,if_true,Int.ediv_one];split <;>omega
theorem nk{v:Value}{o:Option Int}{Q:Option Int->Shared->Prop}(p:IsPart v o)(h:Q o s):wpAny (model prog w) A (Builtin.Slice.slicePartIndex v) Q E s:=by
 cases p with
 |none=>exact slicePart_none h
 |int i t=>exact slicePart_int h
theorem gQ{sl:Addr}{vl vu:Value}{lo hi:Option Int}{n:Nat}{Q:Int×Int×Nat->Shared->Prop}(hs:s.heap.IsSliceOf sl vl vu .none)(pl:IsPart vl lo)(pu:IsPart vu hi)
  (h:Q (((sIx n 0 lo:Nat):Int),1,sIx n n hi-sIx n 0 lo) s):wpAny (model prog w) A (lW (.ref sl) (pure (n:Int))) Q E s:=by
 obtain⟨os,hos,hcs,hds⟩:=id hs;unfold lW Builtin.Slice.sliceFields;refine af (af (fA hos hds (x:=vl) rfl (af (fA hos hds (x:=vu) rfl (af (fA hos hds (x:=.none) rfl (aj ?_)))))));refine af (slicePart_none ?_);show wpAny _ _ (if((1:Int)==0)=true then _ else _) _ _ s;rw[if_neg (by decide)];refine af (nk pl (af (nk pu (af (aj ?_)))));show wpAny _ _ (match fY lo hi 1 (n:Int)with | (lo,hi)=>pure (lo,(1:Int),dy lo hi 1)) _ _ s;rw[vE lo hi n];show wpAny _ _ (pure (((sIx n 0 lo:Nat):Int),(1:Int),dy ((sIx n 0 lo:Nat):Int) ((sIx n n hi:Nat):Int) 1)) _ _ s;rw[u6];exact aj h
theorem zJ(xs:Array Value)(i k:Nat):((aU k).filterMap fun(m:Nat)=>xs[((i:Int)+(m:Int)*1).toNat]?).toArray=((xs.toList.drop i).take k).toArray:=by
 have e:(fun(m:Nat)=>xs[((i:Int)+(m:Int)*1).toNat]?)=fun m=>xs[i+m]? :=by
  funext m
  have :((i:Int)+(m:Int)*1).toNat=i+m:=by omega
  rw[this]
 rw[e];have :=pick_run xs i k;rw[List.filterMap_map]at this;have e2:((fun x=>xs[x]?)∘fun x=>i+x)=fun m=>xs[i+m]? :=rfl;rw[e2]at this;rw[this]
theorem kE{t sl:Addr}{items:Array Value}{vl vu:Value}{lo hi:Option Int}{Q:Value->Shared->Prop}(ht:IsTup s.heap t items)(hs:s.heap.IsSliceOf sl vl vu .none)(pl:IsPart vl lo)(pu:IsPart vu hi)
  (hw:¬(sIx items.size 0 lo=0/\sIx items.size items.size hi=items.size))
  (h:Q (.ref s.heap.objs.size) {s with heap:=s.heap.push {cls:=.type "tuple",data:=.seq ((items.toList.drop (sIx items.size 0 lo)).take (sIx items.size items.size hi-sIx items.size 0 lo)).toArray}})
  (hsz:items.size<=sizeLine):wpAny (model prog w) A (rW (.ref t) (.ref sl)) Q E s:=by
 have htake:sizeOk (.seq ((items.toList.drop (sIx items.size 0 lo)).take (sIx items.size items.size hi-sIx items.size 0 lo)).toArray):=by
  show((items.toList.drop (sIx items.size 0 lo)).take (sIx items.size items.size hi-sIx items.size 0 lo)).toArray.size<=sizeLine;rw[ax,bt,di,cC];omega
 have hj:sIx items.size items.size hi<=items.size:=lq _ _ (ao _) hi;obtain⟨os,hos,hcs,hds⟩:=id hs;have hTs:s.TypeIs (.ref sl) "slice":=⟨os,hos,hcs⟩;unfold rW;try with_reducible refine bN ?_
 first |refine af (aj ?_) |skip
 refine af (wpAny_sequenceKey ht.typeIs (by decide) ?_);refine af (ka (name:=aI "__getitem__") ht.typeIs bC
  (uf bC ht.typeIs entry_tuple_getitem ?_ (args_tuple_getitem _ _)))
 show wpAny _ _ (lU (.ref t)>>=_) _ _ s;refine af (tupleItemsOf_ ht ?_);refine af (rS hTs ?_);rw[if_pos (by decide)];refine af (gQ hs pl pu ?_);have hno:¬((((sIx items.size 0 lo:Nat):Int)==0&&(1:Int)==1&&(sIx items.size items.size hi-sIx items.size 0 lo)==items.size)=true):=by
  intro q;rw[ae,ae]at q;have q1:((sIx items.size 0 lo:Nat):Int)=0:=eq_of_beq q.1.1;have q2:sIx items.size items.size hi-sIx items.size 0 lo=items.size:=eq_of_beq q.2;exact hw ⟨by omega,by omega⟩
 show wpAny _ _ (if(((sIx items.size 0 lo:Nat):Int)==0&&(1:Int)==1&&(sIx items.size items.size hi-sIx items.size 0 lo)==items.size)=true then _ else _) _ _ s;rw[if_neg hno,zJ]
 first
  |exact af (m:=dI _) (dX (aj ⟨_,rfl,aj h⟩) htake)
  |exact af (m:=dI _) (dX (af (aj (aj ⟨_,rfl,aj h⟩))) htake)
  |exact af (af (m:=dI _) (dX (aj (aj ⟨_,rfl,aj h⟩)) htake))
  |exact af (af (m:=dI _) (dX (aj ⟨_,rfl,aj h⟩) htake))
end
end HT
namespace L2
open PySem PySem.Spec PyProof.Rows
noncomputable abbrev TO:=St->Hp->(Option Int->Hp->Prop)->Prop
noncomputable def PO(X:Cx)(e:Option Expr)(t:TO):Prop:=
 ∀(pins:List (Addr×Obj))(s:Shared)(σ:St)(H:Hp)(Q:Option Int->Hp->Prop),Inv X pins σ H s->t σ H Q->
  wpAny (model X.prog X.w) X.A (evalPart e X.env) (fun u s'=>∃o H',Inv X pins σ H' s'/\IsPart u o/\Q o H') X.xe s
noncomputable def mM:TO:=fun _ H Q=>Q none H
noncomputable def vM(t:TE):TO:=fun σ H Q=>t σ H fun x H1=>∃i,x=.int i/\Q (some i) H1
section
variable {X:Cx}{e:Expr}{te:TE}{lo hi:Option Expr}{tl th:TO}{pos p2:Pos}
theorem po_none:PO X none mM:=by
 intro pins s σ H Q I h;rw[evalPart_none];exact aj ⟨none,H,I,.none,h⟩
theorem po_some(h:PE X e te):PO X (some e) (vM te):=by
 intro pins s σ H Q I hw;rw[evalPart_some];refine thn (h pins s σ H _ I hw) fun u s1 ⟨x,H1,I1,r1,q1⟩=>?_;obtain⟨i,rfl,q⟩:=q1;obtain⟨t,rfl⟩:=r1;exact⟨some i,H1,I1,.int i t,q⟩
noncomputable def SlR(X:Cx)(r:V->Option Int->Option Int->Hp->VK->Prop):Prop:=
 ∀(pins:List (Addr×Obj))(s:Shared)(σ:St)(H:Hp)(x:V)(v vl vu:Value)(lo hi:Option Int)(sl:Addr)(Q:VK),Inv X pins σ H s->RelV x v->s.heap.IsSliceOf sl vl vu .none->IsPart vl lo->IsPart vu hi->r x lo hi H Q->
  ∃T id,typeLookup (.type T) "__getitem__"=pure (some (.builtin id))/\s.TypeIs v T/\wpAny (model X.prog X.w) X.A (rW v (.ref sl)) (EP X pins σ Q) X.xe s
theorem SlR.or{r r':V->Option Int->Option Int->Hp->VK->Prop}(h:SlR X r)(h':SlR X r'):SlR X (fun x lo hi H Q=>r x lo hi H Q\/r' x lo hi H Q):=by
 intro pins s σ H x v vl vu lo hi sl Q I rx hs pl pu q;rcases q with q|q
 ·exact h pins s σ H x v vl vu lo hi sl Q I rx hs pl pu q
 ·exact h' pins s σ H x v vl vu lo hi sl Q I rx hs pl pu q
noncomputable def tSl(r:V->Option Int->Option Int->Hp->VK->Prop)(te:TE)(tl th:TO):TE:=fun σ H Q=>te σ H fun x H1=>tl σ H1 fun l H2=>th σ H2 fun u H3=>r x l u H3 Q
theorem zM{r:V->Option Int->Option Int->Hp->VK->Prop}(hr:SlR X r)(he:PE X e te)(hl:PO X lo tl)(hu:PO X hi th):PE X (.Subscript e (.Slice lo hi none p2) pos) (tSl r te tl th):=by
 intro pins s σ H Q I h;refine Subscript_ (thn (he pins s σ H _ I h) fun v s1 ⟨x,H1,I1,r1,q1⟩=>?_);refine wpAny_Slice (thn (hl pins s1 σ H1 _ I1 q1) fun vl s2 ⟨l,H2,I2,pl,q2⟩=>thn (hu pins s2 σ H2 _ I2 q2) fun vu s3 ⟨u,H3,I3,pu,q3⟩=>?_);rw[evalPart_none];refine aj ?_;have I4:Inv X pins σ H3 {s3 with heap:=s3.heap.push {cls:=.type "slice",data:=.fields #[vl,vu,.none]}}:=I3.kept (t':=s3.toks) fun b ob q=>ai _ q;obtain⟨T,id,hT,ht,hg⟩:=hr pins {s3 with heap:=s3.heap.push {cls:=.type "slice",data:=.fields #[vl,vu,.none]}} σ H3 x v vl vu l u s3.heap.objs.size Q I4 r1 (Heap.IsSliceOf.new ..) pl pu q3;show wpAny (model X.prog X.w) X.A (AW e (.Slice lo hi none p2) v (.ref s3.heap.objs.size)) (EP X pins σ Q) X.xe {s3 with heap:=s3.heap.push {cls:=.type "slice",data:=.fields #[vl,vu,.none]}};exact tail_any (ops:=[.ref s3.heap.objs.size,v]) ht hT hg (by with_unfolding_all rfl)
noncomputable def jX(xs:List V)(lo hi:Option Int):List V:=(xs.drop (HT.sIx xs.length 0 lo)).take (HT.sIx xs.length xs.length hi-HT.sIx xs.length 0 lo)
theorem mh(xs:List V)(lo hi:Option Int):(jX xs lo hi).length<=xs.length:=by
 unfold jX;rw[bt,di];omega
noncomputable def rSlT(K:aa):V->Option Int->Option Int->Hp->VK->Prop:=fun x lo hi H Q=>∃a xs,x=.ref a/\SqT K H a xs/\
 ¬(HT.sIx xs.length 0 lo=0/\HT.sIx xs.length xs.length hi=xs.length)/\∀p,H p=none->Q (.ref p) (upd H p (.tup (jX xs lo hi)))
theorem sl_tup:SlR X (rSlT X.K):=by
 intro pins s σ H x v vl vu lo hi sl Q I rx hs pl pu h;obtain⟨a,xs,rfl,hx,hw,q⟩:=h;cases rx;obtain⟨its,r,ht,hz⟩:=I.tuple hx;have hlen:its.toArray.size=xs.length:=by rw[ax];exact r.length.symm
 refine⟨"tuple",_,bC.lookup,ht.typeIs,?_⟩;refine HT.kE ht hs pl pu (by rw[hlen];exact hw) ?_ (by rw[hlen];exact hz);rw[hlen];refine⟨.ref s.heap.objs.size,_,I.laid (t':=s.toks) (o:=.tup (jX xs lo hi)) (fun b ob q=>ai _ q) (ao _) ?_,rfl,q _ (I.hok.fresh (ao _))⟩;exact⟨au (mh xs lo hi) hz,_,(r.drop (HT.sIx xs.length 0 lo)).take (HT.sIx xs.length xs.length hi-HT.sIx xs.length 0 lo),IsTup.new _ _⟩
noncomputable def vW(K:aa):R2:=fun x y H Q=>∃a b xs ys,x=.ref a/\y=.ref b/\SqT K H a xs/\SqT K H b ys/\xs≠[]/\xs.length+ys.length<=sizeLine/\
 (ys=[]->Q (.ref a) H)/\(ys≠[]->∀p,H p=none->Q (.ref p) (upd H p (.tup (xs++ys))))
theorem bp.rh{xs:List V}{us:List Value}(r:bp xs us):us=[]↔xs=[]:=by
 cases r with
 |nil=>simp
 |cons _ _=>simp
theorem op_catT:OpR X (cB .Add) (vW X.K):=by
 intro pins s σ H x y v u Q I rx ry h;obtain⟨a,b,xs,ys,rfl,rfl,ha,hb,hx,hz,q1,q2⟩:=h;cases rx;cases ry;obtain⟨its,r1,p1,_⟩:=I.tuple ha;obtain⟨its2,r2,p2,_⟩:=I.tuple hb;refine HT.cat_tup p1 p2 (fun z=>hx (r1.rh.mp z)) (fun z=>⟨.ref a,H,I,rfl,q1 (r2.rh.mp z)⟩) (fun z=>?_) (by rw[<-r1.length,<-r2.length];exact hz);refine⟨.ref s.heap.objs.size,_,I.laid (t':=s.toks) (o:=.tup (xs++ys)) (fun b ob q=>ai _ q) (ao _) ?_,rfl,q2 (fun w=>z (r2.rh.mpr w)) _ (I.hok.fresh (ao _))⟩;exact⟨by rw[aD];exact hz,_,r1.append r2,IsTup.new _ _⟩
end
noncomputable def ixN(n:Nat)(i:Int):Option Nat:=if 0<=i then(if i<n then some i.toNat else none)else if -(n:Int)<=i then some (i+n).toNat else none
noncomputable def atI{α:Type}(xs:List α)(i:Int):Option α:=(ixN xs.length i).bind fun j=>xs[j]?
theorem wz{n:Nat}{i:Int}{j:Nat}(h:ixN n i=some j):seqIndex? i n=some j/\j<n∧-(n:Int)<=i/\i<n:=by
 unfold ixN at h;by_cases h0:0<=i
 ·rw[if_pos h0]at h
  by_cases h1:i<n
  ·rw[if_pos h1]at h
   have e:i.toNat=j:=aX h;exact⟨by rw[seqIndex_of h0 h1,e],by omega,by omega,h1⟩
  ·rw[if_neg h1]at h;cases h
 ·rw[if_neg h0]at h
  by_cases h1: -(n:Int)<=i
  ·rw[if_pos h1]at h
   have e:(i+n).toNat=j:=aX h;exact⟨by rw[seqIndex_neg (by omega) h1,e],by omega,h1,by omega⟩
  ·rw[if_neg h1]at h;cases h
theorem rQ{α:Type}{xs:List α}{i:Int}{v:α}(h:atI xs i=some v):∃j,seqIndex? i xs.length=some j/\xs[j]? =some v/\j<xs.length∧-(xs.length:Int)<=i/\i<xs.length:=by
 unfold atI at h;cases e:ixN xs.length i with
 |none=>rw[e]at h;cases h
 |some j=>
  rw[e]at h;obtain⟨h1,h2,h3,h4⟩:=wz e;exact⟨j,h1,h,h2,h3,h4⟩
theorem ib{α:Type}{xs:List α}{j:Nat}{v:α}(h:xs[j]? =some v):atI xs (j:Int)=some v:=by
 have hj:j<xs.length:=(aE.mp h).1;have e:ixN xs.length (j:Int)=some j:=by
  unfold ixN;rw[if_pos (by omega),if_pos (by omega)];simp
 unfold atI;rw[e];exact h
noncomputable def wR(b:Expr):Prop:=∀o i,subscripted b false o i=operate [o,i] (rW o i)
noncomputable def IxR(X:Cx)(r:R2):Prop:=
 ∀(value slice:Expr)(pins:List (Addr×Obj))(s:Shared)(σ:St)(H:Hp)(x y:V)(v u:Value)(Q:VK),Inv X pins σ H s->RelV x v->RelV y u->r x y H Q->
  subscripted slice false v u=operate [v,u] (rW v u)->wpAny (model X.prog X.w) X.A (AW value slice v u) (EP X pins σ Q) X.xe s
noncomputable def MtR(X:Cx)(id:String)(r:V->List V->Hp->VK->Prop):Prop:=
 ∀(pins:List (Addr×Obj))(s:Shared)(σ:St)(H:Hp)(x:V)(xs:List V)(v:Value)(us:List Value)(Q:VK),Inv X pins σ H s->RelV x v->bp xs us->r x xs H Q->
  wpAny (model X.prog X.w) X.A (call (.builtin id) (v::us)) (EP X pins σ Q) X.xe s
section
variable {X:Cx}{a b:Expr}{ta tb:TE}{pos:Pos}
theorem IxR.or{r r':R2}(h:IxR X r)(h':IxR X r'):IxR X (fun x y H Q=>r x y H Q\/r' x y H Q):=by
 intro value slice pins s σ H x y v u Q I rx ry q hs;rcases q with q|q
 ·exact h value slice pins s σ H x y v u Q I rx ry q hs
 ·exact h' value slice pins s σ H x y v u Q I rx ry q hs
theorem MtR.or{id:String}{r r':V->List V->Hp->VK->Prop}(h:MtR X id r)(h':MtR X id r'):MtR X id (fun x xs H Q=>r x xs H Q\/r' x xs H Q):=by
 intro pins s σ H x xs v us Q I rx rs q;rcases q with q|q
 ·exact h pins s σ H x xs v us Q I rx rs q
 ·exact h' pins s σ H x xs v us Q I rx rs q
theorem zP{r:R2}(hr:IxR X r)(ha:PE X a ta)(hb:PE X b tb)(hs:wR b):PE X (.Subscript a b pos) (tOp r ta tb):=by
 intro pins s σ H Q I h;exact Subscript_ (binT ha hb I h fun v u s2 x y H2 I2 rx ry q=>hr a b pins s2 σ H2 x y v u Q I2 rx ry q (hs _ _))
noncomputable def rIxL(K:aa):R2:=fun x y H Q=>∃p xs i v,x=.ref p/\y=.int i/\SqL K H p xs/\atI xs i=some v/\Q v H
noncomputable def rIxT(K:aa):R2:=fun x y H Q=>∃p xs i v,x=.ref p/\y=.int i/\SqT K H p xs/\atI xs i=some v/\Q v H
noncomputable def rIxS:R2:=fun x y H Q=>∃z i c,x=.str z/\y=.int i/\z.length<=sizeLine/\atI z.cps.toList i=some c/\Q (.str ⟨#[c]⟩) H
theorem ix_list:IxR X (rIxL X.K):=by
 intro value slice pins s σ H x y v u Q I rx ry h hs;obtain⟨p,xs,i,z,rfl,rfl,hq,he,q⟩:=h;cases rx;obtain⟨t,rfl⟩:=ry;obtain⟨its,r,pl,hz⟩:=I.list hq;obtain⟨j,h1,h2,h3,h4,h5⟩:=rQ he;obtain⟨w,ew,rw'⟩:=r.get h2;have hl:=r.length;have hn:=jU;have fin:EP X pins σ Q w s:=⟨z,H,I,rw',q⟩;by_cases h0:0<=i
 ·have hj:i.toNat=j:=by
   rw[seqIndex_of h0 h5]at h1;exact aX h1
  exact item_listR pl.isList h0 (by omega) (by rw[hj];simpa using ew) fin hs
 ·have hj:(i+(its.toArray.size:Int)).toNat=j:=by
   rw[seqIndex_neg (by omega) h4]at h1;rw[ax,<-hl];exact aX h1
  exact subscriptTail_builtinR (x:=w) pl.isList.typeIs slot_list_getitem.lookup
   (wpAny_getItem_list_neg (Q:=fun r s'=>r=w/\EP X pins σ Q r s') pl.isList (by omega) (by rw[ax]<;>omega) (by omega) (by rw[hj];simpa using ew) ⟨rfl,fin⟩) hs
theorem ix_tup:IxR X (rIxT X.K):=by
 intro value slice pins s σ H x y v u Q I rx ry h hs;obtain⟨p,xs,i,z,rfl,rfl,hq,he,q⟩:=h;cases rx;obtain⟨t,rfl⟩:=ry;obtain⟨its,r,pl,hz⟩:=I.tuple hq;obtain⟨j,h1,h2,h3,h4,h5⟩:=rQ he;obtain⟨w,ew,rw'⟩:=r.get h2;have hl:=r.length;have hn:=jU;have fin:EP X pins σ Q w s:=⟨z,H,I,rw',q⟩;exact subscriptTail_builtinR (x:=w) pl.typeIs slot_tuple_getitem.lookup
  (getItem_tuple (j:=j) (Q:=fun r s'=>r=w/\EP X pins σ Q r s') pl (by omega) (by omega) (by rw[ax,<-hl];exact h1) (by simpa using ew) ⟨rfl,fin⟩) hs
theorem ix_str:IxR X rIxS:=by
 intro value slice pins s σ H x y v u Q I rx ry h hs;obtain⟨z,i,c,rfl,rfl,hz,he,q⟩:=h;obtain⟨t,rfl⟩:=rx;obtain⟨t',rfl⟩:=ry;obtain⟨j,h1,h2,h3,h4,h5⟩:=rQ he;have hl:z.cps.toList.length=z.length:=by simp[bX]
 rw[hl]at h1 h4 h5;have hn:=jU;exact tail_any (iM s z t) slot_str_getitem.lookup (getItem_str (c:=c) (by
  have e1:decide (i< -(2^63:Int))=false:=decide_eq_false (by omega);have e2:decide (i≥ 2^63)=false:=decide_eq_false (by omega);rw[e1,e2,Bool.or_false]) (by rw[h1];simpa using h2) ⟨.str ⟨#[c]⟩,H,I.tok _,⟨_,rfl⟩,q⟩) hs
noncomputable def rIx(K:aa):R2:=fun x y H Q=>rIxL K x y H Q\/rIxT K x y H Q\/rIxS x y H Q
theorem Am:IxR X (rIx X.K):=ix_list.or (ix_tup.or ix_str)
theorem vh(its:List Value)(n j:Nat)(u:Value):jz (·.setIfInBounds j u) {cls:=.type "list",data:=.seq its.toArray n}={cls:=.type "list",data:=.seq (its.set j u).toArray n}:=by
 simp[jz]
theorem Inv.lst{pins:List (Addr×Obj)}{σ:St}{H:Hp}{s:Shared}{p:Addr}{xs:List V}(I:Inv X pins σ H s)(h:H p=some (.lst xs)):
  ∃(its:List Value)(n:Nat),bp xs its/\s.heap.get? p=some {cls:=.type "list",data:=.seq its.toArray n}/\xs.length<=sizeLine:=by
 obtain⟨z,its,n,r,e⟩:=I.hok p _ h;exact⟨its,n,r,e,z⟩
theorem Inv.lstUpd{pins:List (Addr×Obj)}{σ:St}{H:Hp}{s:Shared}{p:Addr}{xs ys:List V}{its its':List Value}{n n':Nat}{f:Obj->Obj}(I:Inv X pins σ H s)(h:H p=some (.lst xs))
  (ho:s.heap.get? p=some {cls:=.type "list",data:=.seq its.toArray n}) (hf:f {cls:=.type "list",data:=.seq its.toArray n}={cls:=.type "list",data:=.seq its'.toArray n'}) (r:bp ys its') (hz:ys.length<=sizeLine) (t:Nat):
  Inv X pins σ (upd H p (.lst ys)) {s with heap:=s.heap.update p f,toks:=t}:=by
 have e:(s.heap.update p f).get? p=some {cls:=.type "list",data:=.seq its'.toArray n'}:=by
  rw[cQ f ho (by rw[hf]<;>rfl),hf]
 refine I.write (x:=p) (e:=p) (by rw[h];trivial) (.inl rfl) (fun b u hb q=>(aS _ _ (bO hb)).trans q) ⟨_,e⟩ ?_;exact⟨hz,its',n',r,e⟩
noncomputable def rSetL:V->V->V->Hp->(Hp->Prop)->Prop:=fun o i v H Q=>∃p xs k j,o=.ref p/\i=.int k/\H p=some (.lst xs)/\ixN xs.length k=some j/\Q (upd H p (.lst (xs.set j v)))
theorem set_list:PSet X rSetL:=by
 intro pins s σ H o i v ov iv u Q I ro ri rv h;obtain⟨p,xs,k,j,rfl,rfl,hp,hj,q⟩:=h;cases ro;obtain⟨t,rfl⟩:=ri;obtain⟨its,n,r,ho,hz⟩:=I.lst hp;obtain⟨h1,h2,h3,h4⟩:=wz hj;have hl:=r.length;have hn:=jU;have I':Inv X pins σ (upd H p (.lst (xs.set j v))) {s with heap:=s.heap.update p (jz (·.setIfInBounds j u))}:=
  I.lstUpd hp ho (vh its n j u) (r.set rv j) (by rw[List.length_set];exact hz) s.toks
 by_cases h0:0<=k
 ·have hk:k.toNat=j:=by
   rw[seqIndex_of h0 h4]at h1;exact aX h1
  exact PySem.W.ki_setAt ho h0 (by omega) (by rw[ax,<-hl];exact h4) (by rw[hk];exact⟨_,I',q⟩)
 ·have hk:(k+(its.toArray.size:Int)).toNat=j:=by
   rw[seqIndex_neg (by omega) h3]at h1;rw[ax,<-hl];exact aX h1
  exact PySem.W.ki_setBack ho (by omega) (by rw[ax,<-hl];exact h3) (by omega) (by rw[hk];exact⟨_,I',q⟩)
theorem qH(lo hi:Option Int)(n:Nat):(gN lo hi none n).1=((HT.sIx n 0 lo:Nat):Int)/\(gN lo hi none n).2.1=((HT.sIx n n hi:Nat):Int)/\(gN lo hi none n).2.2=1:=by
 refine⟨?_,?_,rfl⟩
 ·cases lo with
  |none=>simp[gN,HT.sIx]
  |some i=>
   simp only[gN,HT.sIx,mX,show(1:Int)>0 by decide,if_true];by_cases h:i<0
   ·simp only[h,if_true]<;>omega
   ·simp only[h,if_false]<;>omega
 ·cases hi with
  |none=>simp[gN,HT.sIx]
  |some i=>
   simp only[gN,HT.sIx,mX,show(1:Int)>0 by decide,if_true];by_cases h:i<0
   ·simp only[h,if_true]<;>omega
   ·simp only[h,if_false]<;>omega
theorem pq(its:List Value)(lo hi:Option Int):slicePick its.toArray lo hi none=((its.drop (HT.sIx its.length 0 lo)).take (HT.sIx its.length its.length hi-HT.sIx its.length 0 lo)).toArray:=by
 obtain⟨h1,h2,h3⟩:=qH lo hi its.toArray.size;unfold slicePick;rw[h1,h2,h3];simp only[sliceRange_one,pick_run,ax]<;>rfl
noncomputable def rSlL(K:aa):V->Option Int->Option Int->Hp->VK->Prop:=fun x lo hi H Q=>∃a xs,x=.ref a/\SqL K H a xs/\∀p,H p=none->Q (.ref p) (upd H p (.lst (jX xs lo hi)))
theorem sl_list:SlR X (rSlL X.K):=by
 intro pins s σ H x v vl vu lo hi sl Q I rx hs pl pu h;obtain⟨a,xs,rfl,hx,q⟩:=h;cases rx;obtain⟨its,r,ht,hz⟩:=I.list hx;have hlen:=r.length;refine⟨"list",_,slot_list_getitem.lookup,ht.isList.typeIs,?_⟩;refine wpAny_getItem_list_slice ht.isList hs pl pu .none (by simp) ?_ (by rw[ax]<;>omega);rw[pq,<-hlen];refine⟨.ref s.heap.objs.size,_,I.laid (t':=s.toks) (o:=.lst (jX xs lo hi)) (fun b ob q=>ai _ q) (ao _) ?_,rfl,q _ (I.hok.fresh (ao _))⟩;exact⟨au (mh xs lo hi) hz,_,0,(r.drop (HT.sIx xs.length 0 lo)).take (HT.sIx xs.length xs.length hi-HT.sIx xs.length 0 lo),aO _ rfl⟩
noncomputable def me:V->Bool
 |.non=>true
 |.bl _=>true
 |.int _=>true
 |.str _=>true
 |_=>false
noncomputable def eqV:V->V->Bool
 |.non,.non=>true
 |.bl a,.bl b=>a==b
 |.bl a,.int b=>(if a then 1 else 0)==b
 |.int a,.bl b=>a==(if b then 1 else 0)
 |.int a,.int b=>a==b
 |.str a,.str b=>a==b
 |_,_=>false
theorem dA{A:Around}{s:Shared}{y x:V}{u v:Value}(ry:RelV y u)(rx:RelV x v)(fy:me y=true)(fx:me x=true):SeqAt.EqAt A s u v (eqV y x):=by
 cases y with
 |non=>
  cases ry;cases x with
  |non=>cases rx;exact SeqAt.EqAt.same _
  |bl b=>cases rx;exact SeqAt.EqAt.none_bool b
  |int b=>obtain⟨t,rfl⟩:=rx;exact SeqAt.EqAt.none_int b t
  |str b=>obtain⟨t,rfl⟩:=rx;exact SeqAt.EqAt.none_str b t
  |_=>exact absurd (show false=true from fx) aP
 |bl a=>
  cases ry;cases x with
  |non=>cases rx;exact SeqAt.EqAt.bool_none a
  |bl b=>cases rx;exact SeqAt.EqAt.bool_bool a b
  |int b=>obtain⟨t,rfl⟩:=rx;exact SeqAt.EqAt.bool_int a b t
  |str b=>obtain⟨t,rfl⟩:=rx;exact SeqAt.EqAt.bool_str a b t
  |_=>exact absurd (show false=true from fx) aP
 |int a=>
  obtain⟨t',rfl⟩:=ry;cases x with
  |non=>cases rx;exact SeqAt.EqAt.int_none a t'
  |bl b=>cases rx;exact SeqAt.EqAt.int_bool a t' b
  |int b=>obtain⟨t,rfl⟩:=rx;exact SeqAt.EqAt.int_int a t' b t
  |str b=>obtain⟨t,rfl⟩:=rx;exact uy a t' b t
  |_=>exact absurd (show false=true from fx) aP
 |str a=>
  obtain⟨t',rfl⟩:=ry;cases x with
  |non=>cases rx;exact SeqAt.EqAt.str_none a t'
  |bl b=>cases rx;exact SeqAt.EqAt.str_bool a t' b
  |int b=>obtain⟨t,rfl⟩:=rx;exact ux a t' b t
  |str b=>obtain⟨t,rfl⟩:=rx;exact SeqAt.EqAt.str_str a t' b t
  |_=>exact absurd (show false=true from fx) aP
 |_=>exact absurd (show false=true from fy) aP
noncomputable def eqU(x:V)(u:Value):Bool:=match u with
 |.none=>eqV .non x
 |.bool b=>eqV (.bl b) x
 |.int i _=>eqV (.int i) x
 |.str z _=>eqV (.str z) x
 |_=>false
theorem AD{x y:V}{u:Value}(r:RelV y u)(f:me y=true):eqU x u=eqV y x:=by
 cases y with
 |non=>cases r;rfl
 |bl b=>cases r;rfl
 |int i=>obtain⟨t,rfl⟩:=r;rfl
 |str z=>obtain⟨t,rfl⟩:=r;rfl
 |_=>exact absurd (show false=true from f) aP
theorem kR{x:V}:∀{xs:List V}{us:List Value},bp xs us->xs.all me=true->us.any (eqU x)=xs.any fun y=>eqV y x
 |_,_,.nil,_=>rfl
 |y::xs,u::us,.cons r t,f=>by
  rw[iF,ae]at f;rw[List.any_cons,List.any_cons,AD r f.1,kR t f.2]
theorem iW{A:Around}{s:Shared}{x:V}{v:Value}(rx:RelV x v)(fx:me x=true):∀{xs:List V}{us:List Value},bp xs us->xs.all me=true->∀u∈us,SeqAt.EqAt A s u v (eqU x u)
 |_,_,.nil,_=>fun u hu=>by cases hu
 |y::xs,u::us,.cons r t,f=>fun u' hu=>by
  rw[iF,ae]at f;rcases aA.mp hu with rfl|hu
  ·rw[AD r f.1];exact dA r rx f.1 fx
  ·exact iW rx fx t f.2 u' hu
noncomputable def inV(x:V)(xs:List V):Bool:=xs.any fun y=>eqV y x
noncomputable def rIn(K:aa)(neg:Bool):R2:=fun x y H Q=>∃p xs,y=.ref p/\(SqL K H p xs\/SqT K H p xs)/\me x=true/\xs.all me=true/\Q (.bl (if neg then !inV x xs else inV x xs)) H
theorem xJ:OpR X (bV .In) (rIn X.K false):=by
 intro pins s σ H x y v u Q I rx ry h;obtain⟨p,xs,rfl,hq,fx,fs,q⟩:=h;cases ry;rcases hq with hq|hq
 ·obtain⟨its,r,pl,hz⟩:=I.list hq
  refine SeqAt.in_listAt (eqU x) pl.isList (fun w hw=>iW rx fx r fs w (by simpa using hw)) ⟨.bl _,H,I,rfl,?_⟩;rw[show its.toArray.any (eqU x)=its.any (eqU x) by simp,kR r fs];exact q
 ·obtain⟨its,r,pl,hz⟩:=I.tuple hq
  refine SeqAt.in_tupleAt (eqU x) pl (fun w hw=>iW rx fx r fs w (by simpa using hw)) ⟨.bl _,H,I,rfl,?_⟩;rw[show its.toArray.any (eqU x)=its.any (eqU x) by simp,kR r fs];exact q
theorem qZ:OpR X (bV .NotIn) (rIn X.K true):=by
 intro pins s σ H x y v u Q I rx ry h;obtain⟨p,xs,rfl,hq,fx,fs,q⟩:=h;cases ry;rcases hq with hq|hq
 ·obtain⟨its,r,pl,hz⟩:=I.list hq
  refine SeqAt.notIn_listAt (eqU x) pl.isList (fun w hw=>iW rx fx r fs w (by simpa using hw)) ⟨.bl _,H,I,rfl,?_⟩;rw[show its.toArray.any (eqU x)=its.any (eqU x) by simp,kR r fs];exact q
 ·obtain⟨its,r,pl,hz⟩:=I.tuple hq
  refine SeqAt.notIn_tupleAt (eqU x) pl (fun w hw=>iW rx fx r fs w (by simpa using hw)) ⟨.bl _,H,I,rfl,?_⟩;rw[show its.toArray.any (eqU x)=its.any (eqU x) by simp,kR r fs];exact q
theorem qY:OpR X (bV .NotIn) (fun x y H Q=>∃i j,x=.str i/\y=.str j/\Q (.bl (!(!(bS j i 0 j.length 1).isEmpty))) H):=by
 intro pins s σ H x y v u Q I rx ry h;obtain⟨i,j,rfl,rfl,q⟩:=h;obtain⟨t,rfl⟩:=rx;obtain⟨t',rfl⟩:=ry;exact notIn_str ⟨.bl _,H,I,rfl,q⟩
theorem rL:eK X (.builtin "len") (fun xs H Q=>∃p ys,xs=[.ref p]/\(SqL X.K H p ys\/SqT X.K H p ys)/\Q (.int ys.length) H):=by
 intro pins s σ H xs us Q I r h;obtain⟨p,ys,rfl,hq,q⟩:=h;obtain⟨u,rfl,rx⟩:=vals1 r;cases rx;have hn:=jU;rcases hq with hq|hq
 ·obtain⟨its,r',pl,hz⟩:=I.list hq
  have hlen:=r'.length;exact Calls.call_len_list pl.isList (by simp only[ax]<;>omega) ⟨.int ys.length,H,I.tok _,⟨s.toks+1,by rw[ax,hlen]⟩,q⟩
 ·obtain⟨its,r',pl,hz⟩:=I.tuple hq
  have hlen:=r'.length;exact len_tuple pl (by simp only[ax]<;>omega) ⟨.int ys.length,H,I.tok _,⟨s.toks+1,by rw[ax,hlen]⟩,q⟩
theorem rK:eK X (.builtin "len") (fun xs H Q=>∃z,xs=[.str z]/\z.length<=sizeLine/\Q (.int z.length) H):=by
 intro pins s σ H xs us Q I r h;obtain⟨z,rfl,hz,q⟩:=h;obtain⟨u,rfl,t,rfl⟩:=vals1 r;have hn:=jU;exact len_str (by omega) ⟨.int z.length,H,I.tok _,⟨_,rfl⟩,q⟩
theorem eK.or{f:Value}{r r':List V->Hp->VK->Prop}(h:eK X f r)(h':eK X f r'):eK X f (fun xs H Q=>r xs H Q\/r' xs H Q):=by
 intro pins s σ H xs us Q I rs q;rcases q with q|q
 ·exact h pins s σ H xs us Q I rs q
 ·exact h' pins s σ H xs us Q I rs q
theorem rJ:eK X (.type "list") (fun xs H Q=>∃p ys,xs=[.ref p]/\(SqL X.K H p ys\/SqT X.K H p ys)/\∀l,H l=none->Q (.ref l) (upd H l (.lst ys))):=by
 intro pins s σ H xs us Q I r h;obtain⟨p,ys,rfl,hq,q⟩:=h;obtain⟨u,rfl,rx⟩:=vals1 r;cases rx;have fin:∀(its:List Value),bp ys its->ys.length<=sizeLine->∀(h':Heap)(c':Nat),(∀b o',s.heap.get? b=some o'->h'.get? b=some o')->
   h'.get? s.heap.objs.size=some {cls:=.type "list",dict:=none,data:=.seq its.toArray c',slots:= #[]}->EP X pins σ Q (.ref s.heap.objs.size) {s with heap:=h'}:=fun its r' hz h' c' kp e=>
  ⟨.ref s.heap.objs.size,_,I.laid (t':=s.toks) kp (ao _) (show cW X.prog X.w _ h' _ (.lst ys)from⟨hz,its,c',r',e⟩),rfl,q _ (I.hok.fresh (ao _))⟩
 rcases hq with hq|hq
 ·obtain⟨its,r',pl,hz⟩:=I.list hq
  have hlen:=r'.length;obtain⟨o,ho,hc,n,hd⟩:=pl.isList;exact call_list_seq p (.inl rfl) ho hc hd (fun h' c' kp e=>fin its r' hz h' c' kp e) (by simp only[ax]<;>omega)
 ·obtain⟨its,r',pl,hz⟩:=I.tuple hq
  have hlen:=r'.length;obtain⟨o,ho,hc,n,hd⟩:=pl;exact call_list_seq p (.inr rfl) ho hc hd (fun h' c' kp e=>fin its r' hz h' c' kp e) (by simp only[ax]<;>omega)
theorem pD:eK X (.type "tuple") (fun xs H Q=>∃p ys,xs=[.ref p]/\((SqL X.K H p ys/\∀l,H l=none->Q (.ref l) (upd H l (.tup ys)))\/(SqT X.K H p ys/\Q (.ref p) H))):=by
 intro pins s σ H xs us Q I r h;obtain⟨p,ys,rfl,h⟩:=h;obtain⟨u,rfl,rx⟩:=vals1 r;cases rx;rcases h with⟨hq,q⟩ |⟨hq,q⟩
 ·obtain⟨its,r',pl,hz⟩:=I.list hq
  have hlen:=r'.length;refine call_tuple_list pl.isList (fun h' kp=>?_) (by simp only[ax]<;>omega);have I1:Inv X pins σ H {s with heap:=h'}:=I.kept (t':=s.toks) kp;have I2:Inv X pins σ (upd H h'.objs.size (.tup ys)) {s with heap:=h'.push {cls:=.type "tuple",data:=.seq its.toArray}}:=
   I1.laid (t':=s.toks) (fun b o e=>ai _ e) (ao _) (show cW X.prog X.w _ _ _ (.tup ys)from⟨hz,its,r',IsTup.new _ _⟩)
  exact⟨.ref h'.objs.size,_,I2,rfl,q _ (I1.hok.fresh (ao _))⟩
 ·obtain⟨its,r',pl,hz⟩:=I.tuple hq
  exact call_tuple_same pl ⟨.ref p,H,I,rfl,q⟩
noncomputable def tyV(K:aa)(T:String)(x:V)(H:Hp):Prop:=match x with
 |.str _=>T="str"
 |.int _=>T="int"
 |.ref p=>(T="list"/\∃xs,SqL K H p xs)\/(T="tuple"/\∃o,K.lookup p=some o/\o.cls=.type "tuple"/\o.dict=none)\/
   (T="dict"/\((∃kvs,H p=some (.dK kvs))\/∃kvs,H p=some (.dT kvs)))\/(T="set"/\∃S n,H p=some (.set S n))
 |_=>False
theorem uJ{pins:List (Addr×Obj)}{σ:St}{H:Hp}{s:Shared}{T:String}{x:V}{v:Value}(I:Inv X pins σ H s)(r:RelV x v)(ty:tyV X.K T x H):
  s.TypeIs v T/\∀a,v=.ref a->∃ob,s.heap.get? a=some ob/\ob.dict=none:=by
 cases x with
 |str z=>
  obtain⟨t,rfl⟩:=r;cases(show T="str" from ty);exact⟨iM s z t,fun _ e=>nomatch e⟩
 |int i=>
  obtain⟨t,rfl⟩:=r;cases(show T="int" from ty);exact⟨typeIs_int s i t,fun _ e=>nomatch e⟩
 |ref p=>
  cases r;rcases ty with⟨rfl,xs,hq⟩ |⟨rfl,o,hk,hc,hd⟩ |⟨rfl,hk⟩ |⟨rfl,S,n,hk⟩
  ·obtain⟨its,_,pl,_⟩:=I.list hq
   refine⟨pl.isList.typeIs,fun a e=>?_⟩;cases e;obtain⟨o,n,e,c,hd,_⟩:=pl;exact⟨o,e,hd⟩
  ·refine⟨⟨o,I.kIn p o hk,hc⟩,fun a e=>?_⟩
   cases e;exact⟨o,I.kIn _ o hk,hd⟩
  ·have z:∃o,s.heap.get? p=some o/\o.ExactDict:=by
    rcases hk with⟨kvs,hk⟩ |⟨kvs,hk⟩
    ·obtain⟨_,_,_,_,o,_,_,e,ex,_⟩:=I.hok p _ hk
     exact⟨o,e,ex⟩
    ·obtain⟨_,_,_,_,o,_,_,e,ex,_⟩:=I.hok p _ hk
     exact⟨o,e,ex⟩
   obtain⟨o,e,ex⟩:=z;refine⟨⟨o,e,ex.1⟩,fun a e2=>?_⟩;cases e2;exact⟨o,e,ex.2.1⟩
  ·obtain⟨o,_,_,_,e,ex,_⟩:=I.hok p _ hk
   refine⟨⟨o,e,ex.1⟩,fun a e2=>?_⟩;cases e2;exact⟨o,e,ex.2.1⟩
 |_=>exact dM ty
noncomputable def tBM0(K:aa)(T:String)(r:V->List V->Hp->VK->Prop)(to:TE):TE:=fun σ H Q=>to σ H fun x H1=>tyV K T x H1/\r x [] H1 Q
noncomputable def tBM(K:aa)(T:String)(r:V->List V->Hp->VK->Prop)(to:TE)(t:TA):TE:=fun σ H Q=>to σ H fun x H1=>tyV K T x H1/\t σ H1 fun xs H2=>r x xs H2 Q
variable {o e:Expr}{es:List Expr}{to:TE}{t:TA}{name:Str}{apos cpos:Pos}{T id:String}{r:V->List V->Hp->VK->Prop}
theorem zT(pa:PlainAttrs T)(slot:Slot T name id)(hty:typeOf (.builtin id)=pure (.type "method_descriptor"))(hm:MtR X id r)(ho:PE X o to)
  (hbase:pb o name X.env (eval o X.env)=eval o X.env:=by rfl) (hline:(apos.endLine==cpos.line)=true:=by rfl):PE X (.Call (.Attribute o name apos) [] [] cpos) (tBM0 X.K T r to):=by
 intro pins s σ H Q I h;refine wpAny_Call_method0_late hbase hline (thn (ho pins s σ H _ I h) fun v s1 ⟨x,H1,I1,r1,ty,q1⟩=>?_);obtain⟨h1,h2⟩:=uJ I1 r1 ty;exact⟨T,id,pa,slot,hty,h1,h2,jg rfl (PySem.evalArgs_none (hm pins s1 σ H1 x [] v [] Q I1 r1 .nil q1))⟩
theorem wk(pa:PlainAttrs T)(slot:Slot T name id)(hty:typeOf (.builtin id)=pure (.type "method_descriptor"))(hm:MtR X id r)(ho:PE X o to)(ha:PA X (e::es) t)
  (hbase:pb o name X.env (eval o X.env)=eval o X.env:=by rfl)
  (hfew:((backTo cpos (aB (e::es) X.env)).all (fun x=> !x.1)&&(rX cpos (ju [] X.env)).all (fun x=>x.1.isSome)
   &&decide ((e::es).length+([]:List Keyword).length+(if([]:List Keyword).isEmpty then 0 else 1)<30))=true:=by rfl)
  (hline:(apos.endLine==cpos.line)=true:=by rfl) (hs:aB (e::es) X.env=(false,eval e X.env)::aB es X.env:=by rfl) (hplain:(backTo cpos (aB es X.env)).any (·.1)=false:=by rfl):
  PE X (.Call (.Attribute o name apos) (e::es) [] cpos) (tBM X.K T r to t):=by
 intro pins s σ H Q I h;refine wpAny_Call_method_late hbase hfew hline rfl (thn (ho pins s σ H _ I h) fun v s1 ⟨x,H1,I1,r1,ty,q1⟩=>?_);obtain⟨h1,h2⟩:=uJ I1 r1 ty;refine⟨T,id,pa,slot,hty,h1,h2,?_⟩;have hA:=ha cpos pins s1 σ H1 _ I1 q1;rw[hs]at hA⊢;refine jg (by show(false||(backTo cpos (aB es X.env)).any (·.1))=false;rw[hplain]<;>rfl) (yt ?_);exact thn hA fun us s2 ⟨vs,H2,I2,r2,q2⟩=>hm pins s2 σ H2 x vs v us Q I2 r1 r2 q2
end
noncomputable def MtM(X:Cx)(id:String)(r:V->List V->Hp->VK->Prop):Prop:=
 ∀(pins:List (Addr×Obj))(s:Shared)(σ:St)(H:Hp)(x:V)(xs:List V)(v:Value)(us:List Value)(Q:VK),Inv X pins σ H s->RelV x v->bp xs us->r x xs H Q->
  wpAny (model X.prog X.w) X.A (call (.builtin id) (v::us)) (EP X pins σ Q) X.xe s
theorem bp.one{x:V}{us:List Value}(h:bp [x] us):∃u,us=[u]/\RelV x u:=by
 cases h with
 |cons r k=>cases k with
  |nil=>exact⟨_,rfl,r⟩
theorem bp.two{x y:V}{us:List Value}(h:bp [x,y] us):∃u v,us=[u,v]/\RelV x u/\RelV y v:=by
 cases h with
 |cons r k=>
  obtain⟨v,e,q⟩:=bp.one k;exact⟨_,v,by rw[e],r,q⟩
theorem bp.rep{xs:List V}{us:List Value}(h:bp xs us):∀k:Nat,bp (aV k xs).flatten (aV k us).flatten
 | 0=>.nil
 |k+1=>by
  rw[dg,dg,il,il];exact bp.append h (bp.rep h k)
theorem foldl_rep(its:List Value):∀(k:Nat)(acc:List Value),
  List.foldl (fun x1 x2=>x1++x2) acc.toArray (aV k its.toArray)=(acc++(aV k its).flatten).toArray
 | 0,acc=>by simp
 |k+1,acc=>by
  have e:acc.toArray++its.toArray=(acc++its).toArray:=by simp
  have e2:(acc++its)++(aV k its).flatten=acc++(aV (k+1) its).flatten:=by
   rw[dg,il,cz]
  rw[<-e2,<-foldl_rep its k (acc++its),<-e,dg,cA]
section
variable {X:Cx}{pins:List (Addr×Obj)}{σ:St}{H:Hp}{s:Shared}{l b:Addr}{xs ys zs:List V}
theorem Inv.lset{its its':List Value}{n:Nat}{f:Array Value->Array Value}{t':Nat}(I:Inv X pins σ H s)(hH:H l=some (.lst xs))
  (e:s.heap.get? l=some {cls:=.type "list",data:=.seq its.toArray n}) (hf:f its.toArray=its'.toArray) (hv:bp ys its') (hz:ys.length<=sizeLine):
  Inv X pins σ (upd H l (.lst ys)) {s with heap:=s.heap.update l (jz f),toks:=t'}:=by
 have q:=yo e f;rw[hf]at q;refine I.write (x:=l) (e:=l) (by rw[hH];exact trivial) (.inl rfl) (fun b' u hb hu=>(aS s.heap (jz f) (bO hb)).trans hu) ⟨_,q⟩ ?_;exact⟨hz,its',_,hv,q⟩
theorem Inv.lnew{its:List Value}{t':Nat}(I:Inv X pins σ H s)(hv:bp ys its)(hz:ys.length<=sizeLine):
  Inv X pins σ (upd H s.heap.objs.size (.lst ys)) {s with heap:=s.heap.push {cls:=.type "list",data:=.seq its.toArray},toks:=t'}:=
 I.laid (fun _ _ q=>ai _ q) (ao _) ⟨hz,its,0,hv,aO _ rfl⟩
theorem Inv.fresh(I:Inv X pins σ H s):H s.heap.objs.size=none:=I.hok.fresh (ao _)
theorem Inv.lstM(I:Inv X pins σ H s)(hH:H l=some (.lst xs)):xs.length<=sizeLine/\∃(its:List Value)(n:Nat),bp xs its/\xs.length=its.length/\s.heap.get? l=some {cls:=.type "list",data:=.seq its.toArray n}:=by
 obtain⟨z,its,n,r,e⟩:=I.hok l _ hH;exact⟨z,its,n,r,r.length,e⟩
theorem z0{n:Nat}(h:n<=sizeLine):gu n=false:=by
 unfold gu;exact decide_eq_false (by omega)
end
section
variable {X:Cx}
noncomputable def vZ:V->List V->Hp->VK->Prop:=fun x vs H Q=>∃l xs y,x=.ref l/\vs=[y]/\H l=some (.lst xs)/\xs.length<sizeLine/\Q .non (upd H l (.lst (xs++[y])))
theorem xM:MtM X "list.append" vZ:=by
 intro pins s σ H x vs v us Q I rx rv h;obtain⟨l,xs,y,rfl,rfl,hH,hz,q⟩:=h;cases rx;obtain⟨u,rfl,ru⟩:=rv.one;obtain⟨z,its,n,r,hl,e⟩:=I.lstM hH;refine gz F.slot_list_append ⟨_,e,rfl⟩ F.entry_list_append (F.args_list_append_2 _ _) (PySem.list_append l its.toArray n u (by rw[ax];omega)) ⟨e,?_⟩;refine⟨.non,_,I.lset (its':=its++[u]) hH e (by simp) (r.append (.cons ru .nil)) ?_,rfl,q⟩;rw[aD,jN];omega
noncomputable def rPop:V->List V->Hp->VK->Prop:=fun x vs H Q=>∃l xs y,x=.ref l/\vs=[]/\H l=some (.lst xs)/\xs[xs.length-1]? =some y/\Q y (upd H l (.lst xs.dropLast))
noncomputable def rPopAt:V->List V->Hp->VK->Prop:=fun x vs H Q=>∃l xs i k y,x=.ref l/\vs=[.int i]/\H l=some (.lst xs)∧-(2^63)<=i/\i<2^63/\seqIndex? i xs.length=some k/\xs[k]? =some y/\Q y (upd H l (.lst (xs.eraseIdx k)))
noncomputable def rReverse:V->List V->Hp->VK->Prop:=fun x vs H Q=>∃l xs,x=.ref l/\vs=[]/\H l=some (.lst xs)/\Q .non (upd H l (.lst xs.reverse))
noncomputable def rClear:V->List V->Hp->VK->Prop:=fun x vs H Q=>∃l xs,x=.ref l/\vs=[]/\H l=some (.lst xs)/\Q .non (upd H l (.lst []))
noncomputable def rCat:R2:=fun x y H Q=>∃l b xs zs,x=.ref l/\y=.ref b/\H l=some (.lst xs)/\H b=some (.lst zs)/\xs.length+zs.length<=sizeLine/\∀p,H p=none->Q (.ref p) (upd H p (.lst (xs++zs)))
theorem op_cat:OpR X (cB .Add) rCat:=by
 intro pins s σ H x y v u Q I rx ry h;obtain⟨l,b,xs,zs,rfl,rfl,hH,hB,hz,q⟩:=h;cases rx;cases ry;obtain⟨z,its,n,r,hl,e⟩:=I.lstM hH;obtain⟨z2,its2,n2,r2,hl2,e2⟩:=I.lstM hB;refine PySem.P.add_list e e2 ?_ (by rw[ax,ax];omega);have ea:its.toArray++its2.toArray=(its++its2).toArray:=by simp
 rw[ea];exact⟨.ref _,_,I.lnew (t':=s.toks) (r.append r2) (by rw[aD];omega),rfl,q _ I.fresh⟩
noncomputable def rRep:R2:=fun x y H Q=>∃l k xs,x=.ref l/\y=.int k/\H l=some (.lst xs)∧-(2^63)<=k/\k<2^63/\xs.length*k.toNat<=sizeLine/\
 ∀p,H p=none->Q (.ref p) (upd H p (.lst (aV k.toNat xs).flatten))
theorem len_rep{α:Type}(xs:List α)(k:Nat):(aV k xs).flatten.length=k*xs.length:=by
 induction k with
 |zero=>simp
 |succ k ih=>rw[dg,il,aD,ih,Nat.succ_mul,Nat.add_comm]
theorem op_rep:OpR X (cB .Mult) rRep:=by
 intro pins s σ H x y v u Q I rx ry h;obtain⟨l,k,xs,rfl,rfl,hH,h1,h2,hz,q⟩:=h;cases rx;obtain⟨t,rfl⟩:=ry;obtain⟨z,its,n,r,hl,e⟩:=I.lstM hH;have hlen:its.toArray.size*k.toNat<=sizeLine:=by rw[ax,<-hl];exact hz
 have hcap:¬its.toArray.size*k.toNat>(2^63-1)/8:=by
  have :(sizeLine:Nat)<=(2^63-1)/8:=by decide
  omega
 have hfit:¬(!Builtin.List.listFitsIndex k)=true:=by
  rw[fitsIndex_both h1 h2];exact aP
 have hlong:¬gu (its.toArray.size*k.toNat)=true:=by
  rw[z0 hlen];exact aP
 have hnew:List.foldl (fun x1 x2=>x1++x2) #[] (aV (if its.toArray.isEmpty=true then 0 else k.toNat) its.toArray)=(aV k.toNat its).flatten.toArray:=by
  have f0:∀m:Nat,List.foldl (fun x1 x2=>x1++x2) #[] (aV m its.toArray)=(aV m its).flatten.toArray:=fun m=>by
   have :=foldl_rep its m []
   rw[qz]at this;exact this
  rw[f0];cases its with
  |nil=>simp
  |cons a r'=>rw[if_neg (by simp)]
 refine wpAny_binaryOp_repeat_ref (T:="list") (U:="int") (by decide) ⟨_,e,rfl⟩ (fun s'=>typeIs_int s' k t) noFill_list_mul F.fills_int_mul F.slot_int_rmul repeat_list F.slot_int_index.lookup
  (gz F.slot_int_rmul (typeIs_int s k t) F.entry_int_rmul (F.args_int_rmul_2 _ _) (int___rmul___int_list k t l its.toArray n)
   ⟨e,rfl,⟨_,e,rfl⟩,gz F.slot_list_mul ⟨_,e,rfl⟩ F.entry_list_mul (F.args_list_mul_2 _ _) (AutoListH.list___mul___list_int_3 l its.toArray n k t hfit hcap hlong) ⟨e,?_⟩⟩)
 rw[hnew];exact⟨.ref _,_,I.lnew (t':=s.toks) (r.rep k.toNat) (by rw[len_rep,Nat.mul_comm];exact hz),rfl,q _ I.fresh⟩
end
section
variable {κ:Type}[DecidableEq κ]
noncomputable def iQ(kvs:List (κ×V))(k:κ):Option V:=(kvs.find? fun kv=>decide (kv.1=k)).map (·.2)
noncomputable def putK(kvs:List (κ×V))(k:κ)(v:V):List (κ×V):=
 if(kvs.any fun kv=>decide (kv.1=k))=true then kvs.map (fun kv=>if kv.1=k then(kv.1,v)else kv)else kvs++[(k,v)]
theorem yG{p:κ×V}{r:List (κ×V)}{k:κ}(e:p.1=k):iQ (p::r) k=some p.2:=by simp[iQ,jC,e]
theorem yH{p:κ×V}{r:List (κ×V)}{k:κ}(e:¬p.1=k):iQ (p::r) k=iQ r k:=by simp[iQ,jC,e]
theorem mI.xU{o:Option V}{u:Option Value}(r:mI o u):o.isSome=u.isSome:=by
 cases o with
 |none=>cases u with
  |none=>rfl
  |some _=>exact(show False from r).elim
 |some _=>cases u with
  |none=>exact(show False from r).elim
  |some _=>rfl
theorem KV.val{kvs:List (κ×V)}{vs:List (κ×Value)}(r:KV kvs vs)(k:κ):mI (iQ kvs k) (rT vs k):=by
 unfold KV at r
 induction r with
 |nil=>exact True.intro
 | @cons p q ps qs h t ih=>
  obtain⟨h1,h2⟩:=h;by_cases e:p.1=k
  ·have e':q.1=k:=h1.symm.trans e
   have b:rT (q::qs) k=some q.2:=by simp[rT,jC,e']
   rw[yG e,b];exact h2
  ·have e':¬q.1=k:=fun z=>e (h1.trans z)
   have b:rT (q::qs) k=rT qs k:=by simp[rT,jC,e']
   rw[yH e,b];exact ih
end
theorem wx{P:Program}{w:World}{k:Key}{u:Value}(r:RelV (kV k) u):(de P w).is k u=true:=by
 cases k with
 |inl i=>obtain⟨t,e⟩:=(show ∃t,u=uw i t from r);subst e;exact tB P w i t
 |inr x=>obtain⟨t,e⟩:=(show ∃t,u=uu x t from r);subst e;exact tx P w x t
noncomputable def tDNewK:TE:=fun _ H Q=>∀p,H p=none->Q (.ref p) (upd H p (.dK []))
noncomputable def tDNewT:TE:=fun _ H Q=>∀p,H p=none->Q (.ref p) (upd H p (.dT []))
noncomputable def uN:List (TE×TE)->St->Hp->(List (V×V)->Hp->Prop)->Prop
 | [],_,H,Q=>Q [] H
 | (tk,tv)::r,σ,H,Q=>tk σ H fun x H1=>tv σ H1 fun y H2=>uN r σ H2 fun ps H3=>Q ((x,y)::ps) H3
noncomputable abbrev VV:List (V×V)->List (Value×Value)->Prop:=Paired fun p q=>RelV p.1 q.1/\RelV p.2 q.2
noncomputable def PPs(X:Cx)(pos:Pos)(keys:List (Option Expr))(values:List Expr)(trs:List (TE×TE)):Prop:=
 ∀(pins:List (Addr×Obj))(s:Shared)(σ:St)(H:Hp)(Q:List (V×V)->Hp->Prop),Inv X pins σ H s->uN trs σ H Q->
  wpAny (model X.prog X.w) X.A (evalPairs (pairTrees keys values X.env pos)) (fun vs s'=>∃ps H',Inv X pins σ H' s'/\VV ps vs/\Q ps H') X.xe s
theorem pps_nil{X:Cx}{pos:Pos}:PPs X pos [] [] []:=fun pins s σ H Q I h=>pairTrees_nil_walk ⟨[],H,I,.nil,h⟩
theorem zI{X:Cx}{pos:Pos}{k v:Expr}{ks:List (Option Expr)}{vs:List Expr}{tk tv:TE}{trs:List (TE×TE)}(hk:PE X k tk)(hv:PE X v tv)(hr:PPs X pos ks vs trs):
  PPs X pos (some k::ks) (v::vs) ((tk,tv)::trs):=fun pins s σ H Q I h=>
 pairTrees_cons_walk (thn (hk pins s σ H _ I h) fun u s1 ⟨x,H1,I1,rx,q1⟩=>thn (hv pins s1 σ H1 _ I1 q1) fun w2 s2 ⟨y,H2,I2,ry,q2⟩=>
  thn (hr pins s2 σ H2 _ I2 q2) fun ws s3 ⟨ps,H3,I3,rel,q3⟩=>⟨(x,y)::ps,H3,I3,.cons ⟨rx,ry⟩ rel,q3⟩)
noncomputable def mergeK(kvs more:List (Key×V)):List (Key×V):=more.foldl (fun acc kv=>putK acc kv.1 kv.2) kvs
noncomputable def tDisp(trs:List (TE×TE)):TE:=fun σ H Q=>∀p,H p=none->uN trs σ (upd H p (.dK [])) fun ps H2=>H2 p=some (.dK [])/\∃kvs:List (Key×V),ps=kvs.map (fun kv=>(kV kv.1,kv.2))/\kvs.length<=15/\Q (.ref p) (upd H2 p (.dK (mergeK [] kvs)))
end L2
namespace Att
open PySem PySem.W PySem.Calls PyProof.Rows
theorem mF{P:Params}{h:Heap}:∀(ns:List Int)(vs:List Value),WellAll P h vs (ns.map WData.int)->IntsAre vs ns:=by
 intro ns
 induction ns with
 |nil=>
  intro vs w;rw[List.map_nil]at w;cases w;exact .nil
 |cons n ns ih=>
  intro vs w;rw[bo]at w;cases w with
  |cons a b=>
   cases a;exact .cons _ _ (ih _ b)
theorem xr{l:OpenLaw}{n:Nat}(hn:l.most=some n){P:Params}{h:Heap}{args:List WData}{vals:List Value}
  (hpre:l.row.toRowW.claim.pre args=true)(hwl:WellAll P h vals args):
  ∃a vs ns,vals=[bg a]/\args=[WData.list (ns.map WData.int)]/\h.get? a=some {cls:=.type "list",data:=.seq vs.toArray}/\IntsAre vs ns/\ns.length<=n:=by
 have hsh:WShape.hasAll [] args [.list .int]=true:=(pre_splitW hpre).1;have hc:l.pre.holds [] {args:=args}=true:=(pre_splitW hpre).2;obtain⟨d,r,rfl,h1,h2⟩:=hasAllW_cons hsh;obtain rfl:=hasAllW_nil h2;obtain⟨xs,rfl,h3⟩:=hasW_list h1;obtain⟨ns,rfl⟩:=items_int h3;have hlen:ns.length<=n:=by
  unfold OpenLaw.pre at hc;have h4:(WTm.not (.lt (.lit (.int (n:Int))) (.len (.arg 0)))).holds [] {args:=[.list (ns.map .int)]}=true:=by
   have h4:=(holds_andW hc).1;rw[hn]at h4;exact h4
  have h5:=condW_of h4 (w_not (w_lt w_lit (w_len_list (w_arg rfl))));rw[av]at h5;refine je fun q=>?_;have q':(n:Int)<((ns.length:Nat):Int):=by omega
  first
   | (rw[decide_eq_true q']at h5;exact absurd h5 (by decide))
   | (simp at h5;omega)
 cases hwl with
 |cons w1 w2=>
  cases w2;cases w1 with
  |list ho hall=>exact⟨_,_,ns,rfl,rfl,ho,mF ns _ hall,hlen⟩
theorem xB(l:OpenLaw)(args:List WData):l.row.toRowW.claim.post args (.bool true) args=true:=
 postW_of (r:=l.row.toRowW) (X:=(true==true))
  (show WShape.has [] (.bool true) .bool=true by first |rfl|decide|simp[WShape.has,WShape.arms,WShape.armsAll])
  (show(WTm.eq .res (.lit (.bool true))).value [] {args:=args,res:=some (.bool true),after:=args}=some (.bool (true==true))from w_eq_bool (w_res rfl) w_lit) rfl
theorem t9{l:OpenLaw}{n:Nat}{q:Program}{loose:List Str}{XP:(Str->Option Value)->Heap->Prop}{YP:World->Heap->Prop}{d:DefRec}
  (hn:l.most=some n)(hdf:d.params.defaults=[])
  (call:∀(w:World)(s₀ s₁:Shared)(mg mb:Str->Option Value)(fa:Addr)(o:Obj)(pm cd doc:Value)(a:Addr)(vs:List Value)(ns:List Int),
   Ground q loose [] XP w s₀ mg mb s₁.heap->YP w s₁.heap->
   s₁.heap.get? fa=some o->o.data=.func (docDef d.name d.params d.body d.scope pm cd doc)->s₁.heap.CodeRec cd d.name->mg d.name=some (.ref fa)->
   s₁.heap.get? a=some {cls:=.type "list",data:=.seq vs.toArray}->IntsAre vs ns->ns.length<=n->s₁.gens= #[]->
   ic (model l.prog w) wU (.call (.ref fa) ⟨[.ref a],[]⟩) (fun r s'=>r=.ok (.ret (.bool true))/\OldK s₁.heap s'.heap/\s'.os=s₁.os/\jw s'.gens) s₁):
  WalkO q loose XP YP l.row.toRowW d [] (fun f vs=>PySem.call f vs):=by
 intro w s₀ s₁ mg mb G Y fa o pm cd doc dV kV ho hd hcd hD hmg hg args vals as hpre hlay hrd hwl hlo;obtain rfl:dV=.none:=Dflts.none hD hdf;obtain rfl:kV=.none:=Dflts.noKw hD;obtain⟨a,vs,ns,rfl,rfl,hobj,hints,hlen⟩:=xr hn hpre hwl;refine enter_call (fX (call w s₀ s₁ mg mb fa o pm cd doc a vs ns G Y ho (fd_plain hd) hcd hmg hobj hints hlen hg) fun r s' hq=>?_);obtain⟨rfl,h2,h3,h4⟩:=hq;exact⟨.inl ⟨.bool true,.bool true,[],rfl,fun _=>rfl,.bool true,xB l _,fun _=>⟨fZ,fun _ hm=>(nomatch hm)⟩⟩,h2,h3,h4⟩
end Att
namespace L2
open PySem PySem.Spec PyProof.Rows
theorem pN:∀{vs:List Value}{ns:List Int},IntsAre vs ns->bp (ns.map V.int) vs
 |_,_,.nil=>.nil
 |_,_,.cons n t h=>.cons ⟨t,rfl⟩ (pN h)
noncomputable def bb(s:Stmt):Arguments:=match s with
 |.FunctionDef _ a _ _ _ _ _ _ _ _=>a
 |_=>{posonlyargs:=[],args:=[],vararg:=none,kwonlyargs:=[],kw_defaults:=[],kwarg:=none,defaults:=[]}
noncomputable def aZ(s:Stmt):List Stmt:=match s with
 |.FunctionDef _ _ b _ _ _ _ _ _ _=>b
 |_=>[]
noncomputable def aJ(s:Stmt):Scope:=match s with
 |.FunctionDef _ _ _ _ _ _ sc _ _ _=>sc
 |_=>{kind:=.function,names:=[],isGenerator:=false,isCoroutine:=false}
noncomputable abbrev CX0:CXT:=fun _ _ _ _ _ _=>False
noncomputable abbrev E0:XK:=fun _ _ _=>False
structure Fun(K:aa)(x qual:Str)(st:Stmt)(f:Addr)(fd:dh):Prop where
 ex:∃(oc:Value)(od:Option Addr)(kV doc pm:Value)(an:Option Addr)(cdv ct:Value)(osl:Array (Option Value)),
  fd=aC x qual (bb st) (aZ st) (aJ st) .none kV doc pm an cdv ct/\K.lookup f=some ⟨oc,od,.func fd,osl⟩/\dH K cdv qual=true
 kp:b9 K (.ref f)=true
section
variable {P:Program}{w:World}{K:aa}{mg:Str->Option Value}{base:Heap}
theorem Fun.binds{x qual:Str}{st:Stmt}{f:Addr}{fd:dh}{ps:List Str}(F:Fun K x qual st f fd)
  (h:∀(kV doc pm:Value)(an:Option Addr)(cdv ct:Value)(us:List Value),us.length=ps.length->bindArgs (aC x qual (bb st) (aZ st) (aJ st) .none kV doc pm an cdv ct) ⟨us,[]⟩=pure (ps.zip us)):Binds K fd ps []:=by
 obtain⟨oc,od,kV,doc,pm,an,cdv,ct,osl,rfl,lk,hcd⟩:=F.ex;exact .all (h kV doc pm an cdv ct)
theorem Av{x qual:Str}{st:Stmt}{f:Addr}{oc:Value}{od an:Option Addr}{osl:Array (Option Value)}{kV doc pm cdv ct:Value}(l:K.lookup f=some ⟨oc,od,.func (aC x qual (bb st) (aZ st) (aJ st) .none kV doc pm an cdv ct),osl⟩)
  (c:dH K cdv qual=true)(k:b9 K (.ref f)=true):Fun K x qual st f (aC x qual (bb st) (aZ st) (aJ st) .none kV doc pm an cdv ct):=⟨⟨oc,od,kV,doc,pm,an,cdv,ct,osl,rfl,l,c⟩,k⟩
end
noncomputable def aN(H H':Hp):Prop:=∀b o,H b=some o->H' b=some o
theorem aN.refl(H:Hp):aN H H:=fun _ _ h=>h
theorem aN.trans{H H1 H2:Hp}(a:aN H H1)(b:aN H1 H2):aN H H2:=fun c o h=>b c o (a c o h)
theorem aN.free{H H':Hp}(e:aN H H'){l:Addr}(h:H' l=Option.none):H l=Option.none:=by
 cases q:H l with
 |none=>rfl
 |some o=>
  rw[e l o q]at h;cases h
theorem aN.seq{K:aa}{H H':Hp}{a:Addr}{xs:List V}(e:aN H H')(h:SqL K H a xs):SqL K H' a xs:=by
 rcases h with(h|⟨o,h⟩) |h
 ·exact .inl (.inl (e _ _ h))
 ·exact .inl (.inr ⟨o,e _ _ h⟩)
 ·exact .inr h
noncomputable def df(cells:List (Str×Addr)):List (Str×cu)->List (Str×Addr)->List (Str×Addr)
 | [],acc=>acc
 | (n,k)::r,acc=>df cells r (if k=.free then(n,(cells.lookup n).getD 0)::acc else acc)
theorem jZ{env:Env}{f:Str×cu->List (Str×Addr)->Sem (ForInStep (List (Str×Addr)))}
  (hf:∀n k a c,k=.free->env.cells.lookup n=some c->f (n,k) a=pure (.yield ((n,c)::a)))(hg:∀n k a,k≠.free->f (n,k) a=pure (.yield a)):
  ∀(names:List (Str×cu))(acc:List (Str×Addr)),(∀y∈names,y.2=.free->∃c,env.cells.lookup y.1=some c)->forIn names acc f=(pure (df env.cells names acc):Sem _)
 | [],acc,_=>rfl
 | (n,k)::r,acc,h=>by
  rw[List.forIn_cons];by_cases e:k=.free
  ·obtain⟨c,hc⟩:=h (n,k) aq e
   rw[hf n k acc c e hc];show forIn r ((n,c)::acc) f=_;rw[jZ hf hg r _ fun y hy=>h y (aw _ hy)];simp[df,e,hc]
  ·rw[hg n k acc e]
   show forIn r acc f=_;rw[jZ hf hg r _ fun y hy=>h y (aw _ hy)];simp[df,e]
theorem pC{scope:Scope}{env:Env}(h:∀y∈scope.names,y.2=.free->∃c,env.cells.lookup y.1=some c):closureFor scope env=pure (df env.cells scope.names []):=by
 have q:=jZ (env:=env) (f:=fun x cs=>match x with | (name,kind)=>if(kind==be)=true then(do let a<-cellOf env name;pure (dZ ((name,a)::cs)))else pure (dZ cs))
  (fun n k a c e hc=>by
   subst e;simp only[cellOf,hc];rfl) (fun n k a e=>by
   have e':(k==be)=false:=by simpa using e
   simp only[e',bW,if_false]) scope.names [] h
 unfold closureFor;show(forIn scope.names [] _>>=fun r=>pure r)=_;exact(congrArg (·>>=fun r=>pure r) q).trans rfl
theorem gK{cells:List (Str×Addr)}:∀(names:List (Str×cu))(acc:List (Str×Addr))(x:Str)(c:Addr),(df cells names acc).lookup x=some c->
  ((x,be)∈names/\c=(cells.lookup x).getD 0)\/acc.lookup x=some c
 | [],acc,x,c,h=>.inr h
 | (n,k)::r,acc,x,c,h=>by
  rcases gK r _ x c h with⟨q,e⟩ |q
  ·exact .inl ⟨aw _ q,e⟩
  ·by_cases e:k=.free
   ·rw[if_pos e,aH]at q
    cases hx:x==n with
    |true=>
     rw[hx]at q;have en:x=n:=by simpa using hx
     subst en;subst e;exact .inl ⟨aq,(aX q).symm⟩
    |false=>
     rw[hx]at q;exact .inr q
   ·rw[if_neg e]at q
    exact .inr q
theorem oJ{cells:List (Str×Addr)}:∀(names:List (Str×cu))(acc:List (Str×Addr))(x:Str),(acc.lookup x).isSome=true->((df cells names acc).lookup x).isSome=true
 | [],acc,x,h=>h
 | (n,k)::r,acc,x,h=>by
  refine oJ r _ x ?_;split
  ·rw[aH]
   cases x==n<;>simp_all
  ·exact h
theorem j4{cells:List (Str×Addr)}:∀(names:List (Str×cu))(acc:List (Str×Addr))(x:Str),(x,be)∈names->((df cells names acc).lookup x).isSome=true
 | [],acc,x,h=>by simp at h
 | (n,k)::r,acc,x,h=>by
  rcases aA.mp h with q|q
  ·cases q
   refine oJ r _ n ?_;simp[aH]
  ·exact j4 r _ x q
theorem dq:∀(names:List (Str×cu))(n:Nat)(acc:List (Str×Addr)),bx n names acc=bx n names []++acc
 | [],_,_=>rfl
 | (x,k)::r,n,acc=>by
  unfold bx;split
  ·rw[dq r (n+1) ((x,n)::acc),dq r (n+1) [(x,n)],cz]
   rfl
  ·exact dq r n acc
theorem gM:∀(names:List (Str×cu))(n:Nat)(acc:List (Str×Addr))(x:Str),(acc.lookup x).isSome=true->((bx n names acc).lookup x).isSome=true
 | [],_,_,_,h=>h
 | (y,k)::r,n,acc,x,h=>by
  unfold bx;split
  ·refine gM r _ _ x ?_
   rw[aH];cases x==y<;>simp_all
  ·exact gM r _ _ x h
theorem fh:∀(names:List (Str×cu))(n:Nat)(acc:List (Str×Addr))(x:Str),(x,bE)∈names->((bx n names acc).lookup x).isSome=true
 | [],_,_,_,h=>nomatch h
 | (y,k)::r,n,acc,x,h=>by
  unfold bx;rcases aA.mp h with q|q
  ·cases q
   rw[if_pos (by rfl)];refine gM r _ _ _ ?_;simp[aH]
  ·split
   ·exact fh r _ _ x q
   ·exact fh r _ _ x q
theorem gL:∀(names:List (Str×cu))(n:Nat)(acc:List (Str×Addr))(x:Str)(c:Addr),(x,c)∈bx n names acc->(x,bE)∈names\/(x,c)∈acc
 | [],_,_,_,_,h=>.inr h
 | (y,k)::r,n,acc,x,c,h=>by
  unfold bx at h;split at h
  ·rename_i hk
   rcases gL r _ _ x c h with q|q
   ·exact .inl (aw _ q)
   ·rcases aA.mp q with e|e
    ·cases e
     have :k=.cell:=by simpa using hk
     subst this;exact .inl aq
    ·exact .inr e
  ·rcases gL r _ _ x c h with q|q
   ·exact .inl (aw _ q)
   ·exact .inr q
theorem vt{M:Model}{A:Around}{E:Value->Shared->Prop}{s:Shared}{scope:Scope}{globals:Addr}{cl:List (Str×Addr)}{qual:Str}{func:Option Addr}{code:Value}{outer:Env}{builtins:Addr}{Q:Env->Shared->Prop}
  (h:Q (newEnv scope s.heap.objs.size globals (bx (s.heap.objs.size+1) scope.names cl) qual func code (some outer) builtins) {s with heap:=pushCells (s.heap.push {cls:=.type "dict",data:=.dict #[]}) scope.names}):
  wpAny M A (newFunctionEnv scope globals cl [] qual func code (some outer) builtins) Q E s:=by
 simp only[newFunctionEnv,eA,if_true];refine af (wpAny_alloc ?_);refine af (wpAny_layCells _ (fun name kind cells=>by cases hkc:kind==bE<;>simp[hkc]) _ _ _ _ ?_);rw[show({s with heap:=s.heap.push {cls:=.type "dict",data:=.dict #[]}}:Shared).heap.objs.size=s.heap.objs.size+1 from dP ..];rw[sj];exact af (aj (aj h))
structure js(X:Cx)(N':List Str)(sc:Scope):Prop where
 kind:sc.kind=.function
 cellk:∀y∈sc.names,y.2=.cell->sc.names.lookup y.1=some .cell
 own:∀y∈sc.names,y.2=.local->sc.names.lookup y.1=some .local
 free:∀y∈sc.names,y.2=.free->X.env.kindOf y.1=some .cell\/X.env.kindOf y.1=some .free
noncomputable def cm(X:Cx)(N':List Str)(sc:Scope)(C:Addr)(s₀:Shared)(H₀:Hp)(fp:List Addr):Cx:=
 {X with N:=N',s₀:=s₀,H₀:=H₀,env:=compEnvC sc (bx (C+1) sc.names (df X.env.cells sc.names [])) C X.env,outer:=X.stack,stack:=X.stack,ex:=fp,fn:=fun x=>sc.names.any fun y=>decide (y.1=x)&&decide (y.2=.cell),pn:=[],xe:=fun _ _=>False}
theorem iT{env:Env}:∀{names:List (Str×cu)}{x:Str}{k:cu},
  (names.map fun(n,k)=>if(k==be&&env.scope.kind== .function&&env.kindOf n==some .cell)then(n,bE)else(n,k)).lookup x=some k->
  names.lookup x=some k\/(names.lookup x=some .free/\k=.cell)
 | [],_,_,h=>by simp at h
 | (n,k)::r,x,k',h=>by
  have ih:= @iT env r x k';rw[bo]at h;change bD x ((if(k==be&&env.scope.kind== .function&&env.kindOf n==some .cell)=true then(n,bE)else(n,k))::_)=_ at h;cases hx:x==n with
  |true=>
   by_cases hc:(k==be&&env.scope.kind== .function&&env.kindOf n==some .cell)=true
   ·rw[if_pos hc]at h
    simp only[aH,hx]at h⊢;have :k=.free:=by
     have :=hc
     simp only[ae]at this;simpa using this.1.1
    subst this;exact .inr ⟨rfl,(aX h).symm⟩
   ·rw[if_neg hc]at h
    simp only[aH,hx]at h⊢;exact .inl h
  |false=>
   have e:bD x (r.map fun(n,k)=>if(k==be&&env.scope.kind== .function&&env.kindOf n==some .cell)then(n,bE)else(n,k))=some k':=by
    split at h<;>simpa only[aH,hx]using h
   simp only[aH,hx];exact ih e
theorem dJ{env:Env}:∀{names:List (Str×cu)}{x:Str},names.lookup x=some .free->
  (names.map fun(n,k)=>if(k==be&&env.scope.kind== .function&&env.kindOf n==some .cell)then(n,bE)else(n,k)).lookup x=some .free\/
  (names.map fun(n,k)=>if(k==be&&env.scope.kind== .function&&env.kindOf n==some .cell)then(n,bE)else(n,k)).lookup x=some .cell
 | [],_,h=>by simp at h
 | (n,k)::r,x,h=>by
  have ih:= @dJ env r x;rw[bo];change bD x ((if(k==be&&env.scope.kind== .function&&env.kindOf n==some .cell)=true then(n,bE)else(n,k))::_)=_\/bD x ((if(k==be&&env.scope.kind== .function&&env.kindOf n==some .cell)=true then(n,bE)else(n,k))::_)=_;cases hx:x==n with
  |true=>
   simp only[aH,hx]at h;cases h;by_cases hc:(be==be&&env.scope.kind== .function&&env.kindOf n==some .cell)=true
   ·rw[if_pos hc];right;simp only[aH,hx]
   ·rw[if_neg hc];left;simp only[aH,hx]
  |false=>
   simp only[aH,hx]at h;split <;>simpa only[aH,hx]using ih h
theorem dz{env:Env}:∀{names:List (Str×cu)}{x:Str}{k:Option cu},names.lookup x=k->k≠some .free->
  (names.map fun(n,k)=>if(k==be&&env.scope.kind== .function&&env.kindOf n==some .cell)then(n,bE)else(n,k)).lookup x=k
 | [],_,_,h,_=>by simpa using h
 | (n,k)::r,x,k',h,hf=>by
  have ih:= @dz env r x k';rw[bo];change bD x ((if(k==be&&env.scope.kind== .function&&env.kindOf n==some .cell)=true then(n,bE)else(n,k))::_)=_;cases hx:x==n with
  |true=>
   simp only[aH,hx]at h;have hk:k≠.free:=fun e=>hf (by rw[<-h,e]);have hb:(k==be)=false:=by simpa using hk
   rw[if_neg (by rw[hb];simp)];simp only[aH,hx];exact h
  |false=>
   simp only[aH,hx]at h;split <;>simpa only[aH,hx]using ih h hf
theorem qf{sc:Scope}{cl:List (Str×Addr)}{C:Addr}{env:Env}{x:Str}{k:cu}(h:(compEnvC sc cl C env).kindOf x=some k):sc.names.lookup x=some k\/(sc.names.lookup x=some .free/\k=.cell):=iT (env:=env) h
theorem vy{prog:Program}{w:World}{A:Around}{R:Result->Shared->Prop}{s:Shared}{elt target iter:Expr}{ifs:List Expr}{scope:Scope}{pos:Pos}{it acc:Value}{env:Env}(I:Nat->Shared->Prop)
  (turn:∀n s,I n s->wpAny (model prog w) A (pyNext it) (fun r s₁=>match r with
   |none=>R (.ok .next) s₁
   |some v=>wpAny (model prog w) A (kY target it v) (fun _ s₁'=>wpAny (model prog w) A (assign target env v) (fun _ s₂=>
     wpAny (model prog w) A (forIn ifs true fun c r=>if r=true then do let ok<-isTrue c env (eval c env);pure (dZ ok)else pure (dZ r)) (fun ok s₃=>
      if ok=true then wpAny (model prog w) A (eval elt env) (fun x s₄=>
       wpAny (model prog w) A (call (.builtin "list.append") [acc,x]) (fun _ s₅=>∃m,m<n/\I m s₅) (fun _ _=>False) s₄) (fun _ _=>False) s₃
      else ∃m,m<n/\I m s₃) (fun _ _=>False) s₂) (fun _ _=>False) s₁') (fun _ _=>False) s₁) (fun _ _=>False) s)
  (n:Nat) (h:I n s):
  ic (model prog w) A (.compLoop (.ListComp elt [⟨target,iter,ifs,0⟩] scope pos) 0 it acc env) R s:=by
 refine codeAny_loop rfl I (fun n s hI=>?_) n h;show wpAny _ A ((compTurn (.ListComp elt [⟨target,iter,ifs,0⟩] scope pos) 0 it acc env).onRaise (fun x=>do iB x env;theTreesLotGoes x)) _ _ s;refine wpAny_noted ?_;rw[compTurn_list];refine af (dN (af (bM (turn n s hI) (fun r s₁ h₁=>?_) fun _ _ h'=>h'.elim)));cases r with
 |none=>exact aj h₁
 |some v=>
  refine af (bM h₁ (fun _ s₁' h₁'=>?_) fun _ _ h'=>h'.elim);refine af (bM h₁' (fun _ s₂ h₂=>af (bM h₂ (fun ok s₃ h₃=>?_) fun _ _ h'=>h'.elim)) fun _ _ h'=>h'.elim);cases ok with
  |false=>exact aj ⟨rfl,h₃⟩
  |true=>
   exact af (af (bM h₃ (fun x s₄ h₄=>af (bM h₄ (fun _ s₅ h₅=>aj (aj ⟨rfl,h₅⟩)) fun _ _ h'=>h'.elim)) fun _ _ h'=>h'.elim))
noncomputable def PTs(X:Cx)(ifs:List Expr)(t:TT):Prop:=
 ∀(pins:List (Addr×Obj))(s:Shared)(σ:St)(H:Hp)(Q:Bool->Hp->Prop),Inv X pins σ H s->t σ H Q->
  wpAny (model X.prog X.w) X.A (forIn ifs true fun c r=>if r=true then do let ok<-isTrue c X.env (eval c X.env);pure (dZ ok)else pure (dZ r)) (TP X pins σ Q) X.xe s
noncomputable def tYes:TT:=fun _ H Q=>Q true H
theorem pts_nil{X:Cx}:PTs X [] tYes:=by
 intro pins s σ H Q I h;rw[sj];exact aj ⟨H,I,h⟩
theorem pts_one{X:Cx}{c:Expr}{t:TT}(h:PT X c t):PTs X [c] t:=by
 intro pins s σ H Q I hw;rw[List.forIn_cons];simp only[if_true];refine af (af (thn (h pins s σ H Q I hw) fun b s1 q=>?_));refine aj ?_;show wpAny _ _ (forIn ([]:List Expr) b _) _ _ s1;rw[sj];exact aj q
noncomputable def pQ(wi:TI)(g:TG)(tc:TT)(te:TE)(mk:St->St):TE:=fun σ H Q=>wi σ H fun J H1=>∃W:Nat->Nat->St->List V->Hp->Prop,(∃m,W 0 m (mk σ) [] H1)/\
 ∀i m τ acc H2,W i m τ acc H2->(J.stop i H2/\∀l,H2 l=none->Q (.ref l) (upd H2 l (.lst acc)))\/(J.go i H2/\∃N:St->List V->Hp->Prop,(∀τ' acc' H',N τ' acc' H'->∃m',m'<m/\W (i+1) m' τ' acc' H')/\
  ∀x H3,J.yld i H2 x H3->g x τ H3 fun τ4 H4=>tc τ4 H4 fun b H5=>if b=true then te τ4 H5 fun v H6=>acc.length<sizeLine/\N τ4 (acc++[v]) H6 else N τ4 acc H5)
theorem Inv.track{X:Cx}{pins:List (Addr×Obj)}{σ:St}{H:Hp}{s:Shared}{a:Addr}{o:HO}(I:Inv X pins σ H s)(hf:kT X pins H a)(new:cW X.prog X.w (upd H a o) s.heap a o):Inv X pins σ (upd H a o) s:=by
 obtain⟨h0,h1,h2,h3,h4,h5⟩:=hf;have :=I.step (g':=s.gens) (d':=s.drawn) (t':=s.toks) (h':=s.heap) (H':=upd H a o) (ch:=[a]) (fun b hb=>by
   have e:b=a:=by simpa using hb
   subst e;exact⟨h3,h1,h4,h5⟩)
  (fun b ob _ _ _ q _=>q) (fun b ob _ _ _ q _=>⟨ob.slots,q⟩) (fun b ob hb q n=>by rw[aL (fun z=>hb (by simp[z]))];exact n) (fun b ob _ q=>⟨ob,q⟩)
  (fun b xs q=>by rw[aL (ba q h0)];exact q) (fun b ob u q=>by rw[aL (ba q h0)];exact q) (fun b ps q=>⟨#[],by rw[aL (ba q h0),q];simp⟩)
  (fun m hm=>hm) (fun b u q=>by
   by_cases hb:b=a
   ·subst hb;rw[ak]at q;cases q;exact new
   ·rw[aL hb]at q
    exact(I.hok b u q).mC (fun c v _ e=>e) (fun c e=>by rw[aL (ba e h0)];exact e) fun c xs e=>by rw[aL (ba e h0)];exact e) I.bare
 exact this
theorem vD{X:Cx}{pins:List (Addr×Obj)}{σ:St}{H:Hp}{s:Shared}{a:Addr}{its:List Value}{n:Nat}{u:Value}{Q:Value->Shared->Prop}{E:Value->Shared->Prop}(I:Inv X pins σ H s)(hf:kT X pins H a)
  (e:s.heap.get? a=some {cls:=.type "list",data:=.seq its.toArray n}) (hz:its.length<sizeLine)
  (h:∀h' n',Inv X pins σ H {s with heap:=h'}->h'.get? a=some {cls:=.type "list",data:=.seq (its++[u]).toArray n'}->(∀b o,b≠a->s.heap.get? b=some o->h'.get? b=some o)->Q .none {s with heap:=h'}):
  wpAny (model X.prog X.w) X.A (call (.builtin "list.append") [.ref a,u]) Q E s:=by
 refine gz F.slot_list_append ⟨_,e,rfl⟩ F.entry_list_append (F.args_list_append_2 _ _) (PySem.list_append a its.toArray n u (by rw[ax];omega)) ⟨e,?_⟩;have q:=yo e (·.push u);have eq:its.toArray.push u=(its++[u]).toArray:=by simp
 rw[eq]at q;have k:∀b o,b≠a->s.heap.get? b=some o->(s.heap.update a (jz (·.push u))).get? b=some o:=fun b o hb z=>(aS s.heap _ (bO hb)).trans z;obtain⟨h0,h1,h2,h3,h4,h5⟩:=hf;exact h _ _ (I.turned (t':=s.toks) k h0 h1 h3 h4 h5) q k
section
variable {X:Cx}{N':List Str}{sc:Scope}{elt tg iter:Expr}{ifs:List Expr}{pos:Pos}{wi:TI}{g:TG}{tc:TT}{te:TE}{mk:St->St}
noncomputable def MkOk(X:Cx)(N':List Str)(sc:Scope)(mk:St->St):Prop:=
 ∀σ:St,σ.length=X.N.length->(mk σ).length=N'.length/\∀(i:Nat)(x:Str)(v:V),N'[i]? =some x->(mk σ)[i]? =some (some v)->sc.names.lookup x=some .free/\∃j:Nat,X.N[j]? =some x/\σ[j]? =some (some v)
theorem qj{pins:List (Addr×Obj)}{σ:St}{H:Hp}{s:Shared}{Q:VK}{use:Option (Value->Sem Unit)}{QQ:Value->Shared->Prop}(S:js X N' sc)(hm:MkOk X N' sc mk)(hc:X.calm=true)
  (hi:PI X tg iter wi)
  (hb:∀C s₀ H₀ fp,(cm X N' sc C s₀ H₀ fp).Ok->PG (cm X N' sc C s₀ H₀ fp) tg g/\PTs (cm X N' sc C s₀ H₀ fp) ifs tc/\PE (cm X N' sc C s₀ H₀ fp) elt te)
  (hs:∀x,fW iter X.env x=pure x)(I:Inv X pins σ H s)(h:pQ wi g tc te mk σ H Q)
  (fin:∀(l C:Addr)(H':Hp)(s':Shared)(m:Str->Option Value),Inv X pins σ H' s'->s'.heap.Ns C m->kT X pins H' C->(∃o,s'.heap.get? C=some o/\∀v,o.data≠.cell v)->Q (.ref l) H'->compPost (model X.prog X.w) X.A X.xe use QQ (.ref l) C (.ok .next) s'):
  wpAny (model X.prog X.w) X.A (comprehension (.ListComp elt [⟨tg,iter,ifs,0⟩] sc pos) sc X.env (firstIterPos [⟨tg,iter,ifs,0⟩] pos) (newList []) false (eval iter X.env) use) QQ X.xe s:=by
 have hcells:∀y∈sc.names,y.2=.free->∃c,X.env.cells.lookup y.1=some c:=fun y hy hf=>I.ok.has _ (S.free y hy hf);refine wpAny_comprehension_free (use:=use) rfl hs (pC hcells) S.kind S.own ?_;refine thn (hi pins s σ H _ I h) fun v s1 h1=>thn h1 fun itv s2 h2=>?_;obtain⟨it,fp,tn,J,H2,e,I2,T,st2,f2,W,⟨m0,w0⟩,turn⟩:=h2;subst e
 --the list
 refine dX ?_;have hl0:H2 s2.heap.objs.size=none:=I2.fresh;have fD:kT X pins H2 s2.heap.objs.size:=I2.rB (ao _) hl0;have eD3:(s2.heap.push {cls:=.type "list",dict:=none,data:=.seq ([]:List Value).toArray}).get? s2.heap.objs.size=some {cls:=.type "list",data:=.seq ([]:List Value).toArray 0}:=aO _ rfl;have I3:Inv X pins σ H2 {s2 with heap:=s2.heap.push {cls:=.type "list",dict:=none,data:=.seq ([]:List Value).toArray}}:=I2.kept (t':=s2.toks) fun b o e=>ai _ e
 --the block's frame
 refine vt ?_;dsimp only;have szL:(s2.heap.push {cls:=.type "list",dict:=none,data:=.seq ([]:List Value).toArray}).objs.size=s2.heap.objs.size+1:=dP ..;have hDC:s2.heap.objs.size≠(s2.heap.push {cls:=.type "list",dict:=none,data:=.seq ([]:List Value).toArray}).objs.size:=by rw[szL];exact aW (jd _)
 have k23:∀b o,s2.heap.get? b=some o->(s2.heap.push {cls:=.type "list",dict:=none,data:=.seq ([]:List Value).toArray}).get? b=some o:=fun b o e=>ai _ e;generalize hH3:s2.heap.push {cls:=.type "list",dict:=none,data:=.seq ([]:List Value).toArray}=P3 at I3 szL eD3 hDC k23⊢;generalize hD:s2.heap.objs.size=D0 at *;have hns4:(pushCells (P3.push {cls:=.type "dict",data:=.dict #[]}) sc.names).Ns P3.objs.size (fun _=>none):=(Heap.Ns.new P3 (.type "dict")).keeps (pushCells_keeps _ _);have keep4:∀b o,P3.get? b=some o->(pushCells (P3.push {cls:=.type "dict",data:=.dict #[]}) sc.names).get? b=some o:=fun b o e=>pushCells_keeps _ _ b o (ai _ e);have own4:=cellsFrom_ok sc.names (P3.push {cls:=.type "dict",data:=.dict #[]}) (P3.objs.size+1) [] ⟨fun _ _ hm=>(nomatch hm),fZ⟩ (by rw[dP];exact ao _);rw[dP]at own4;generalize pushCells (P3.push {cls:=.type "dict",data:=.dict #[]}) sc.names=h4 at hns4 keep4 own4⊢
 --the context
 have fpl:∀b∈fp,b<D0:=fun b hb=>by
  obtain⟨o,e,_⟩:=T.obj _ _ st2 b hb;rw[<-hD];exact ay e
 have hCb:D0<P3.objs.size:=by rw[szL];exact jd _
 have clo:∀x c,(df X.env.cells sc.names []).lookup x=some c->X.env.cells.lookup x=some c/\(x,be)∈sc.names:=fun x c e=>by
  rcases gK _ _ x c e with⟨q,e'⟩ |q
  ·obtain⟨c',hc'⟩:=hcells _ q rfl
   have hc'':X.env.cells.lookup x=some c':=hc';rw[hc'']at e'⊢;exact⟨by rw[e'];rfl,q⟩
  ·simp at q
 have clt:∀x c,(df X.env.cells sc.names []).lookup x=some c->c<P3.objs.size:=fun x c e=>by
  obtain⟨v,o,ho,_⟩:=I3.cell x c (clo x c e).1;exact ay ho
 have cel:∀x c,(bx (P3.objs.size+1) sc.names (df X.env.cells sc.names [])).lookup x=some c->((x,c)∈bx (P3.objs.size+1) sc.names []/\P3.objs.size+1<=c/\h4.IsCell c none)\/(df X.env.cells sc.names []).lookup x=some c:=fun x c e=>by
  rw[dq,mw]at e;cases ho:(bx (P3.objs.size+1) sc.names []).lookup x with
  |none=>
   rw[ho]at e;exact .inr e
  |some c'=>
   rw[ho]at e;cases e;have m:=aT ho;exact .inl ⟨m,(own4.empty x c m).2,(own4.empty x c m).1⟩
 have celf:∀x,sc.names.lookup x=some .free->(bx (P3.objs.size+1) sc.names (df X.env.cells sc.names [])).lookup x=(df X.env.cells sc.names []).lookup x:=fun x hf=>by
  rw[dq,mw];cases ho:(bx (P3.objs.size+1) sc.names []).lookup x with
  |none=>rfl
  |some c'=>
   rcases gL _ _ _ _ _ (aT ho)with q|q
   ·have :=S.cellk _ q rfl
    rw[hf]at this;cases this
   ·cases q
 have f3:∀b∈D0::fp,kT X pins H2 b/\b<P3.objs.size:=fun b hb=>by
  rcases aA.mp hb with z|z
  ·rw[z];exact⟨fD,hCb⟩
  ·exact⟨f2 b z,jB (fpl b z) hCb⟩
 have ok:(cm X N' sc P3.objs.size {s2 with heap:=P3} H2 (D0::fp)).Ok:=by
  refine⟨I.ok.mod,S.kind,I.ok.glob,I.ok.blt,ao _,fun x y c h1 h2=>?_,fun x hx=>?_,fun x c z=>?_,fun z=>I.ok.hd z,I.ok.frames,.inl rfl,fun b hb=>⟨?_,fun x c e=>?_⟩,I3.bs,au I.ok.bsz I3.sz,fun b o e hb=>?_,fun b hb z=>?_,I3.stack,I3.qD⟩
  ·rcases cel x c h1 with⟨m1,l1,_⟩ |q1<;>rcases cel y c h2 with⟨m2,l2,_⟩ |q2
   ·exact PySem.name_of_addr own4.apart m1 m2
   ·exact absurd l1 (Nat.not_le.mpr (iD (clt y c q2)))
   ·exact absurd l2 (Nat.not_le.mpr (iD (clt x c q1)))
   ·exact I.ok.inj x y c (clo x c q1).1 (clo y c q2).1
  ·have q:sc.names.lookup x=some .free\/sc.names.lookup x=some .cell:=by
    rcases hx with hx|hx
    ·rcases qf hx with q|q
     ·exact .inr q
     ·exact .inl q.1
    ·rcases qf hx with q|q
     ·exact .inl q
     ·exact .inl q.1
   rcases q with q|q
   ·have h1:=bB.mp (j4 (cells:=X.env.cells) _ [] _ (aT q))
    show ∃c,(bx (P3.objs.size+1) sc.names (df X.env.cells sc.names [])).lookup x=some c;rw[celf x q];exact h1
   ·exact bB.mp (fh _ _ _ _ (aT q))
  ·have z:(sc.names.any fun y=>decide (y.1=x)&&decide (y.2=bE))=true:=z
   obtain⟨y,hy,e⟩:=ph.mp z;rw[ae,decide_eq_true_eq,decide_eq_true_eq]at e;intro hc;rcases cel x c hc with⟨_,l1,_⟩ |q1
   ·show P3.objs.size<=c
    omega
   ·have hk:=S.cellk y hy e.2
    rw[e.1]at hk;rcases gK _ _ x c q1 with⟨q,_⟩ |q
    ·have h2:(bx (P3.objs.size+1) sc.names []).lookup x≠none:=fun h=>by
      have :=fh sc.names (P3.objs.size+1) [] x (aT hk)
      rw[h]at this;cases this
     have hc':(bx (P3.objs.size+1) sc.names (df X.env.cells sc.names [])).lookup x=some c:=hc;rw[dq,mw]at hc';cases ho:(bx (P3.objs.size+1) sc.names []).lookup x with
     |none=>exact absurd ho h2
     |some c'=>
      rw[ho]at hc';cases hc';have :=(own4.empty x c (aT ho)).2;show P3.objs.size<=c;omega
    ·cases q
  ·exact aW (f3 b hb).2
  ·rcases cel x c e with⟨_,l1,_⟩ |q1
   ·have :=(f3 b hb).2
    exact fun z=>by subst z;omega
   ·exact(f3 b hb).1.2.2.2.2.1 x c (clo x c q1).1
  ·rcases(f3 b hb).1.2.2.2.1 with z|z
   ·exact I.ok.noex b o e z
   ·exact absurd (aQ (ay e) (au I.ok.bsz z)) (da _)
  ·rcases aA.mp (I2.uP b z)with q|q
   ·exact(f3 b hb).1.2.1 q
   ·exact(f3 b hb).1.2.2.1 q
 obtain⟨pg,pt,pe⟩:=hb _ _ _ _ ok;have I4:Inv (cm X N' sc P3.objs.size {s2 with heap:=P3} H2 (D0::fp)) [] (mk σ) H2 {s2 with heap:=h4}:=by
  obtain⟨ml,hmk⟩:=hm σ I.len;have locC:∀x c v,X.env.cells.lookup x=some c->P3.IsCell c v->h4.IsCell c v:=fun x c v e ⟨o,ho,hd⟩=>⟨o,keep4 c o ho,hd⟩;refine⟨ok,rfl,I2.bare,Un.kept keep4,⟨_,hns4,fun i x v e1 e2 e3=>?_⟩,fun x c e=>?_,I3.hok.fresh (ao _),fun x c e=>?_,fun p hp=>absurd (show p∈([]:List (Addr×Obj))from hp) (by simp),I3.hok.kept keep4,ml⟩
  ·obtain⟨hf,j,hj,hv⟩:=hmk i x v e1 e2
   obtain⟨m,hn,hl⟩:=I3.loc;have kx:=S.free (x,.free) (aT hf) rfl;obtain⟨u,r,l⟩:=hl j x v hj hv (by
    rcases kx with q|q
    ·exact .inr (.inl q)
    ·exact .inr (.inr q))
   refine⟨u,r,.inr ⟨?_,?_⟩⟩
   ·rcases dJ (env:=X.env) hf with q|q
    ·exact .inr q
    ·exact .inl q
   ·rcases l with⟨q,_⟩ |⟨_,c,hc1,hc2⟩
    ·have kx':X.env.kindOf x=some .cell\/X.env.kindOf x=some .free:=kx
     rw[q]at kx';rcases kx' with z|z<;>cases z
    ·obtain⟨c',q⟩:=bB.mp (j4 (cells:=X.env.cells) _ [] _ (aT hf))
     have :=(clo x c' q).1
     rw[hc1]at this;cases this;exact⟨c,by show(bx (P3.objs.size+1) sc.names (df X.env.cells sc.names [])).lookup x=some c;rw[celf x hf];exact q,locC x c _ hc1 hc2⟩
  ·rcases cel x c e with⟨_,_,hv⟩ |q1
   ·exact⟨none,hv⟩
   ·obtain⟨v,hv⟩:=I3.cell x c (clo x c q1).1
    exact⟨v,locC x c v (clo x c q1).1 hv⟩
  ·rcases cel x c e with⟨_,l1,_⟩ |q1
   ·exact I3.hok.fresh (by show P3.objs.size<=c;omega)
   ·exact I3.freeC x c (clo x c q1).1
 have st4:tn 0 h4:=T.keep _ _ _ st2 fun b hb o e=>keep4 b o (k23 b o e);have f4:∀{H':Hp}{b:Addr},b∈D0::fp->H' b=none->kT (cm X N' sc P3.objs.size {s2 with heap:=P3} H2 (D0::fp)) [] H' b:=fun{H' b} hb hn=>
  ⟨hn,(ok.exf b hb).1,ok.exfs b hb,.inl hb,(ok.exf b hb).2,fun p hp=>absurd (show p∈([]:List (Addr×Obj))from hp) (by simp)⟩
 have ofp:∀{b:Addr},b∈fp->b∈D0::fp:=fun hb=>aw _ hb;have nD:∀b∈fp,b≠D0:=fun b hb=>aW (fpl b hb)
 --the loop
 have loop:ic (model X.prog X.w) X.A (.compLoop (.ListComp elt [⟨tg,iter,ifs,0⟩] sc pos) 0 (.ref it) (.ref D0) (compEnvC sc (bx (P3.objs.size+1) sc.names (df X.env.cells sc.names [])) P3.objs.size X.env))
   (compPost (model X.prog X.w) X.A X.xe use QQ (.ref D0) P3.objs.size) {s2 with heap:=h4}:=by
  refine vy (fun n s'=>∃i τ acc H' its k,Inv (cm X N' sc P3.objs.size {s2 with heap:=P3} H2 (D0::fp)) [] τ H' s'/\tn i s'.heap/\(∀b∈D0::fp,H' b=none)/\bp acc its/\acc.length<=sizeLine/\
    s'.heap.get? D0=some {cls:=.type "list",data:=.seq its.toArray k}/\W i n τ acc H') ?_ m0
   ⟨0,mk σ,[],_,[],0,I4,st4,fun b hb=>(f3 b hb).1.1,.nil,bf _,keep4 _ _ eD3,w0⟩
  rintro n s5 ⟨i,τ,acc,H5,its,kk,I5,st5,fr5,va5,hz5,e5,w5⟩;have I5p:Inv (cm X N' sc P3.objs.size {s2 with heap:=P3} H2 (D0::fp)) ([]++fG [D0] s5.heap) τ H5 s5:=by
   refine I5.pinned (fun b hb=>?_) (fun b hb=>?_)
   ·have z:b=D0:=by simpa using hb
    rw[z];exact f4 aq (fr5 D0 aq)
   ·have z:b=D0:=by simpa using hb
    rw[z];exact⟨_,e5,fun v z=>by cases z⟩
  obtain q|⟨go,NN,hN,step⟩:=turn i n τ acc H5 w5
  ·obtain⟨stop,q⟩:=q
   refine thn (T.done (cm X N' sc P3.objs.size {s2 with heap:=P3} H2 (D0::fp)) rfl rfl rfl hc i _ s5 τ H5 (fun _ _=>False) I5p (fun b hb=>?_) st5 stop) fun r s6 ⟨hr,I6p⟩=>?_
   ·obtain⟨g0,g1,g2,g3,g4,_⟩:=f4 (ofp hb) (fr5 b (ofp hb))
    refine⟨g0,g1,g2,g3,g4,fun p hp=>?_⟩;have hp':p∈fG [D0] s5.heap:=by simpa[cm]using hp
    obtain⟨z,_⟩:=lu hp';have z':p.1=D0:=by simpa using z
    rw[z'];exact(nD b hb).symm
   subst hr;have I6:=I6p.eB;have e6:s6.heap.get? D0=some {cls:=.type "list",data:=.seq its.toArray kk}:=(I6p.pin (D0,_) (aG _ (aG _ (eX (by simp) e5)))).1
   --back in the context around
   have un:Un (frs X.stack) fp H2 H5 s2.heap s6.heap:=by
    have u:=I6.base;have nb:∀b o,s2.heap.get? b=some o->b∉fp->b∉D0::fp:=fun b o e hb z=>by
     rcases aA.mp z with z|z
     ·exact absurd (ay e) (by rw[z,hD];exact da _)
     ·exact hb z
    exact⟨fun b o e n hb hx=>u.keep b o (k23 b o e) n hb (nb b o e hx),fun b o e n hb hx=>u.slot b o (k23 b o e) n hb (nb b o e hx),fun b o e n hx=>u.free b o (k23 b o e) n (nb b o e hx),fun b o e hx=>u.there b o (k23 b o e) (nb b o e hx),u.tups,u.frzs,u.tbls⟩
   have I7:Inv X pins σ H5 s6:=by
    obtain⟨hh,g6,d6,t6,os6⟩:=s6;have eo:os6=s2.os:=I6.os;subst eo;exact I2.call (h':=hh) (g':=g6) (d':=d6) (t':=t6) (ch:=fp) un I6.hok I6.bare fun b hb=>⟨(f2 b hb).2.2.2.1,(f2 b hb).2.1,(f2 b hb).2.2.2.2.1,(f2 b hb).2.2.2.2.2⟩
   have fD5:kT X pins H5 D0:=⟨fr5 D0 aq,fD.2⟩;have I8:=I7.track (o:=.lst acc) fD5 (show cW X.prog X.w _ s6.heap D0 (.lst acc)from⟨hz5,its,kk,va5,e6⟩);obtain⟨m,hn,_⟩:=id I6.loc;refine fin _ P3.objs.size _ s6 m I8 hn (I2.rB (by rw[hD];exact o7 hCb) (by rw[aL (bO hDC)];exact I6.free)) ?_ (q D0 (fr5 D0 aq));obtain⟨o,es,ep,ho,hd,_⟩:=hn;exact⟨o,ho,fun v z=>by rw[hd]at z;cases z⟩
  ·skip
   have fpi:∀{H':Hp}{b:Addr},b∈fp->H' b=none->kT (cm X N' sc P3.objs.size {s2 with heap:=P3} H2 (D0::fp)) ([]++fG [D0] s5.heap) H' b:=fun{H' b} hb hn=>by
    obtain⟨g0,g1,g2,g3,g4,_⟩:=f4 (H':=H') (ofp hb) hn;refine⟨g0,g1,g2,g3,g4,fun p hp=>?_⟩;have hp':p∈fG [D0] s5.heap:=by simpa[cm]using hp
    obtain⟨z,_⟩:=lu hp';have z':p.1=D0:=by simpa using z
    rw[z'];exact(nD b hb).symm
   refine thn (T.item (cm X N' sc P3.objs.size {s2 with heap:=P3} H2 (D0::fp)) rfl rfl rfl hc i _ s5 τ H5 (fun _ _=>False) I5p (fun b hb=>fpi hb (fr5 b (ofp hb))) st5 go) fun r s6 ⟨u,hr,h6⟩=>?_;subst hr;refine thn h6 fun _ s7 ⟨x,H7,I7,r7,y7,st7,fr7⟩=>?_;have I7':=I7.pinned (fun b hb=>fpi hb (fr7 b hb)) (T.obj _ _ st7);refine thn (pg _ s7 τ H7 x u _ I7' r7 (step x H7 y7)) fun _ s8 ⟨τ8,H8,I8,q8⟩=>?_;refine thn (pt _ s8 τ8 H8 _ I8 q8) fun b s9 ⟨H9,I9,q9⟩=>?_;have pinD:∀{τ':St}{H':Hp}{s':Shared},Inv (cm X N' sc P3.objs.size {s2 with heap:=P3} H2 (D0::fp)) ([]++fG [D0] s5.heap++fG fp s7.heap) τ' H' s'->s'.heap.get? D0=some {cls:=.type "list",data:=.seq its.toArray kk}/\H' D0=none:=fun{τ' H' s'} J=>by
    have :=J.pin (D0,_) (aG _ (bG _ (aG _ (eX (by simp) e5))))
    exact⟨this.1,this.2.1⟩
   have pinF:∀{τ':St}{H':Hp}{s':Shared},Inv (cm X N' sc P3.objs.size {s2 with heap:=P3} H2 (D0::fp)) ([]++fG [D0] s5.heap++fG fp s7.heap) τ' H' s'->(∀b∈fp,∀o,s7.heap.get? b=some o->s'.heap.get? b=some o)/\(∀b∈fp,H' b=none):=fun{τ' H' s'} J=>by
    refine⟨fun b hb o e=>(J.pin (b,o) (aG _ (aG _ (eX hb e)))).1,fun b hb=>?_⟩;obtain⟨o,e,d⟩:=T.obj _ _ st7 b hb;exact(J.pin (b,o) (aG _ (aG _ (eX hb e)))).2.1
   cases b with
   |false=>
    rw[if_neg (by decide)]at q9⊢;obtain⟨m',hm',w7⟩:=hN τ8 acc H9 q9;obtain⟨d1,d2⟩:=pinD I9;obtain⟨p1,p2⟩:=pinF I9;refine⟨m',hm',i+1,τ8,acc,H9,its,kk,I9.eB.eB,T.keep _ _ _ st7 p1,fun b hb=>?_,va5,hz5,d1,w7⟩;rcases aA.mp hb with z|z
    ·rw[z];exact d2
    ·exact p2 b z
   |true=>
    rw[if_pos rfl]at q9⊢;refine thn (pe _ s9 τ8 H9 _ I9 q9) fun y s10 ⟨z,H10,I10,r10,q10⟩=>?_;obtain⟨hz10,n10⟩:=q10;obtain⟨m',hm',w7⟩:=hN τ8 _ H10 n10;obtain⟨d1,d2⟩:=pinD I10;obtain⟨p1,p2⟩:=pinF I10;have hlen:its.length=acc.length:=va5.length.symm;refine vD (X:=cm X N' sc P3.objs.size {s2 with heap:=P3} H2 (D0::fp)) I10.eB.eB (f4 aq d2) d1 (by omega) fun h' n' I11 e11 k11=>?_;refine⟨m',hm',i+1,τ8,acc++[z],H10,its++[y],n',I11,T.keep _ _ _ st7 fun b hb o e=>k11 b o (nD b hb) (p1 b hb o e),fun b hb=>?_,va5.append (.cons r10 .nil),?_,e11,w7⟩
    ·rcases aA.mp hb with w|w
     ·rw[w];exact d2
     ·exact p2 b w
    ·rw[aD,jN];omega
 exact codeAny_compStart_list loop (T.self _ 0 _ _ _ st4 loop)
theorem pe_comp(S:js X N' sc)(hm:MkOk X N' sc mk)(hc:X.calm=true)(hi:PI X tg iter wi)
  (hb:∀C s₀ H₀ fp,(cm X N' sc C s₀ H₀ fp).Ok->PG (cm X N' sc C s₀ H₀ fp) tg g/\PTs (cm X N' sc C s₀ H₀ fp) ifs tc/\PE (cm X N' sc C s₀ H₀ fp) elt te)
  (hs:∀x,fW iter X.env x=pure x:=by intro _;rfl):PE X (.ListComp elt [⟨tg,iter,ifs,0⟩] sc pos) (pQ wi g tc te mk):=by
 intro pins s σ H Q I h;rw[eval_ListComp];refine qj (use:=none) S hm hc hi hb hs I h fun l C H' s' m I' hn hC hCo q=>⟨m,hn,fun h'' hs''=>?_⟩;have I'':Inv X pins σ H' {s' with heap:=h'',toks:=s'.toks}:=I'.turned (fun b o hb e=>hs''.extBut b o hb e) hC.1 hC.2.1 hC.2.2.2.1 hC.2.2.2.2.1 hC.2.2.2.2.2;exact⟨.ref l,H',I'',rfl,q⟩
theorem u4{i:Nat}{x:Str}{pos' spos:Pos}(S:js X N' sc)(hm:MkOk X N' sc mk)(hc:X.calm=true)(hi:PI X tg iter wi)
  (hb:∀C s₀ H₀ fp,(cm X N' sc C s₀ H₀ fp).Ok->PG (cm X N' sc C s₀ H₀ fp) tg g/\PTs (cm X N' sc C s₀ H₀ fp) ifs tc/\PE (cm X N' sc C s₀ H₀ fp) elt te)
  (hN:X.N.Nodup)(hx:X.N[i]? =some x)(hl:X.env.scope.names.lookup x=some .local)
  (hsw:kb (.ListComp elt [⟨tg,iter,ifs,0⟩] sc pos) (some (.Name x pos')) spos.line X.env=pure true)
  (hs:∀x,fW iter X.env x=pure x:=by intro _;rfl):PS X (.Assign [.Name x pos'] (.ListComp elt [⟨tg,iter,ifs,0⟩] sc pos) spos) (xk (pQ wi g tc te mk) (ot i)):=by
 intro pins s σ H D I h;rw[exec_Assign_Name_used _ _ _ _ hsw];refine af (dN (af ?_));show wpAny _ X.A (do let _<-comprehension (.ListComp elt [⟨tg,iter,ifs,0⟩] sc pos) sc X.env (firstIterPos [⟨tg,iter,ifs,0⟩] pos) (newList []) false (eval iter X.env) (some (assign (.Name x pos') X.env))) _ _ s;refine af (thn (qj (use:=some (assign (.Name x pos') X.env)) (QQ:=fun _ s'=>SP X pins D .next s') S hm hc hi hb hs I h fun l C H' s' m I' hn hC hCo q=>?_) fun _ s' hq=>aj (aj hq));obtain⟨oC,eC,dC⟩:=id hCo;have I1:Inv X (pins++[(C,oC)]) σ H' s':=I'.qS fun p hp=>(bJ.mp hp).elim (fun z=>I'.pin p (aG _ z)) fun z=>by
  have e:p=(C,oC):=by simpa using z
  subst e;exact⟨eC,hC.1,hC.2.1,hC.2.2.1,dC⟩
 show wpAny _ X.A (assign (.Name x pos') X.env (.ref l)) _ _ s';refine thn (qT (i:=i) hN hx (.inl hl) (.inr hl) (pins++[(C,oC)]) s' σ H' (.ref l) (.ref l) D.nx I1 rfl q) fun _ s2 ⟨σ2,H2,I2,q2⟩=>?_;obtain⟨eC2,nC2,_,_,_⟩:=I2.pin (C,oC) (aG _ (aG _ (by simp)));have hn2:s2.heap.Ns C m:=by
  obtain⟨o,es,ep,ho,r⟩:=hn;have :o=oC:=by rw[eC]at ho;exact(aX ho).symm
  subst this;exact⟨o,es,ep,eC2,r⟩
 refine⟨m,hn2,fun h'' hs''=>?_⟩;have I3:Inv X pins σ2 H2 {s2 with heap:=h'',toks:=s2.toks}:=I2.eB.turned (fun b o hb e=>hs''.extBut b o hb e) nC2 hC.2.1 hC.2.2.2.1 hC.2.2.2.2.1 hC.2.2.2.2.2;exact⟨σ2,H2,I3,q2⟩
end
section
variable {X:Cx}
theorem mm:eK X (.builtin "isinstance") (fun xs H Q=>∃x T t b,xs=[x,.ty T]/\iJ X.K H x t/\a6 X.K t (.type T)=some b/\Q (.bl b) H):=by
 intro pins s σ H xs us Q I rv h;obtain⟨x,T,t,b,rfl,ty,e,q⟩:=h;obtain⟨u,c,rfl,ru,rc⟩:=rv.two;cases rc;exact qh I ru ty e fun tk=>⟨.bl b,H,I.tok tk,rfl,q⟩
theorem kH:eK X (.builtin "isinstance") (fun xs H Q=>∃x C t b,xs=[x,.ref C]/\iJ X.K H x t/\a6 X.K t (.ref C)=some b/\Q (.bl b) H):=by
 intro pins s σ H xs us Q I rv h;obtain⟨x,T,t,b,rfl,ty,e,q⟩:=h;obtain⟨u,c,rfl,ru,rc⟩:=rv.two;cases rc;exact qh I ru ty e fun tk=>⟨.bl b,H,I.tok tk,rfl,q⟩
theorem yN{prog:Program}{w:World}{A:Around}{its:List Value}{bs:List Bool}(r:bp (bs.map V.bl) its):TruthOf prog w A (fun i v=>its.toArray[i]? =some v) (fun i=>bs.getD i false):=by
 intro i v s Q E hP h;have hi:its[i]? =some v:=by simpa using hP
 have e:v=.bool (bs.getD i false):=by
  have hl:=r.length;rw[av]at hl;have hlt:i<bs.length:=by
   have :=(aE.mp hi).1
   omega
  obtain⟨u,hu,ru⟩:=bp.get (i:=i) (x:=.bl bs[i]) r (by simp[hlt]);rw[hi]at hu;cases hu;have ru':v=rY bs[i]:=ru;rw[ru',a8,ah hlt];rfl
 rw[e];exact cj h
theorem range_all(bs:List Bool):(aU bs.length).all (fun i=>bs.getD i false)=bs.all id:=by
 have :bs=(aU bs.length).map fun i=>bs.getD i false:=by
  apply fN
  ·simp
  ·intro i h1 h2
   simp[h1]
 rw[Bool.eq_iff_iff];simp only[aM,gO];constructor
 ·intro h x hx
  obtain⟨i,hi,rfl⟩:=yy.mp hx;have :=h i hi;simpa[hi]using this
 ·intro h i hi
  have :=h bs[i] (dj hi)
  simpa[hi]using this
theorem AL(hc:X.calm=true):eK X (.builtin "all") (fun xs H Q=>∃(p:Addr)(bs:List Bool),xs=[.ref p]/\SqL X.K H p (bs.map V.bl)/\Q (.bl (bs.all id)) H):=by
 intro pins s σ H xs us Q I rv h;obtain⟨p,bs,rfl,hq,q⟩:=h;obtain⟨u,rfl,ru⟩:=rv.one;cases ru;obtain⟨its,r,pl,hz⟩:=I.list hq;have hlen:its.toArray.size=bs.length:=by rw[ax,<-r.length,av]
 have hne:p≠s.heap.objs.size:=by obtain⟨o,n,ho,_⟩:=id pl;exact aW (ay ho)
 refine call_all_walk (jt pl.isList ⟨s.heap.objs.size,_,_,_,_,_,fun i=>bs.getD i false,rfl,Walks.list (A:=X.A.in1) (I.ok.hd hc) _ p hne its.toArray,⟨⟨_,aO _ rfl,rfl,rfl⟩,pl.isList.at fun o e=>ai _ e⟩,yN r,fun h' tk k=>?_⟩);rw[hlen,range_all];exact⟨.bl (bs.all id),H,I.kept (t':=tk) fun b o e=>k b o (by simpa using aW (ay e)) (ai _ e),rfl,q⟩
noncomputable def fH(x:Str)(lo hi:Option Int):Str:=⟨((x.cps.toList.drop (HT.sIx x.length 0 lo)).take (HT.sIx x.length x.length hi-HT.sIx x.length 0 lo)).toArray⟩
theorem sIx_eq(n d:Nat)(i:Int):(max 0 (min (if i<0 then i+(n:Int)else i) (n:Int)))=((HT.sIx n d (some i):Nat):Int):=by
 have :=HT.rG i n d
 rw[<-this];split <;>omega
theorem strIx(lo hi:Option Int)(n:Nat):mz lo hi 1 n=(aU (HT.sIx n n hi-HT.sIx n 0 lo)).map fun k=>HT.sIx n 0 lo+k:=by
 have key:∀a b:Nat,sliceRange (a:Int) (b:Int) 1=(aU (b-a)).map fun k=>a+k:=by
  intro a b;unfold sliceRange;have e:(if(1:Int)>0 then(if(a:Int)<b then((b:Int)-a+1-1)/1 else 0)else(if(a:Int)>b then((a:Int)-b-1-1)/(-1)else 0)).toNat=b-a:=by
   rw[if_pos (by decide)];split <;>omega
  simp only[e];apply A3;intro k hk;omega
 have e1:∀(o:Option Int)(d:Nat),(match o with |none=>(d:Int) |some i=>max 0 (min (if i<0 then i+(n:Int)else i) (n:Int)))=((HT.sIx n d o:Nat):Int):=by
  intro o d;cases o with
  |none=>rfl
  |some i=>exact sIx_eq n d i
 have a1:=e1 lo 0;have a2:=e1 hi n;unfold mz;simp only[show(1:Int)>0 by decide,if_true];have b1:((0:Nat):Int)=0:=rfl;rw[b1]at a1;rw[<-key,<-a1,<-a2];cases lo<;>cases hi<;>rfl
theorem pickN(xs:Array Nat)(i:Nat):∀k,((aU k).map fun m=>i+m).filterMap (xs[·]?)=(xs.toList.drop i).take k:=by
 intro k
 induction k with
 |zero=>simp
 |succ k ih=>
  rw[List.range_succ,cT,List.filterMap_append,ih];by_cases h:i+k<xs.size
  ·rw[List.take_succ,gP]
   simp[h]
  ·rw[List.take_succ,gP]
   simp[h]
theorem xo(x:Str)(lo hi:Option Int):Txt.slice x lo hi=fH x lo hi:=by
 have hl:HT.sIx x.length 0 lo<=x.length:=HT.lq _ _ (bf _) lo;have hu:HT.sIx x.length x.length hi<=x.length:=HT.lq _ _ (ao _) hi;unfold Txt.slice fH;rw[strIx];split
 ·rename_i h
  rw[ae,beq_iff_eq,beq_iff_eq,av,List.length_range]at h;have a:HT.sIx x.length 0 lo=0:=by omega
  have b:HT.sIx x.length x.length hi=x.length:=by omega
  rw[a,b];have :x.cps.toList.length=x.length:=by simp[bX]
  rw[sk,yp,<-this,fM]
 ·rw[pickN]
theorem md{v:Value}{o:Option Int}(p:IsPart v o):∃l:Option (Int×Tok),v=partValue l/\o=l.map (·.1):=by
 cases p with
 |none=>exact⟨none,rfl,rfl⟩
 |int i t=>exact⟨some (i,t),rfl,rfl⟩
noncomputable def rSlS:V->Option Int->Option Int->Hp->VK->Prop:=fun x lo hi H Q=>∃z,x=.str z/\z.length<=sizeLine/\Q (.str (fH z lo hi)) H
theorem sl_str:SlR X rSlS:=by
 intro pins s σ H x v vl vu lo hi sl Q I rx hs pl pu h;obtain⟨z,rfl,hz,q⟩:=h;obtain⟨t,rfl⟩:=rx;obtain⟨l,rfl,rfl⟩:=md pl;obtain⟨u,rfl,rfl⟩:=md pu;refine⟨"str",_,F.slot_str_getitem.lookup,iM _ _ _,?_⟩;refine wpAny_getItem_str_slice (l:=l) (u:=u) (st:=none) hs rfl (post_val_or_str ⟨au (Txt.slice_le z _ _) hz,fun t' k=>?_⟩);have e:=xo z (l.map (·.1)) (u.map (·.1));unfold Txt.slice at e;refine⟨.str (fH z (l.map (·.1)) (u.map (·.1))),H,I.tok k,⟨t',?_⟩,q⟩;rw[<-e];rfl
noncomputable def Its(x:Str):It:=⟨fun i _=>i<x.length,fun i H v H'=>H'=H/\∃c,x.cps[i]? =some c/\v=.str ⟨#[c]⟩,fun i _=>x.length<=i⟩
end
theorem pT{prog:Program}{w:World}(it:Addr)(x:Str)(t:Tok)(A:Around)(hA:A.handled=none):
  Walks prog w A it [it] [it] x.cps.size (SignAt x) (fun i h=>h.IsStrIter it (ef x) x t i):=by
 unfold ef;cases ha:x.cps.all (·<128)
 ·simp only[bW,if_false];exact Walks.strWide hA it x t
 ·simp only[if_true];exact Walks.strAscii hA it x t
theorem yK{P:Program}{w:World}{K:aa}{tg:Expr}(x:Str)(it:Addr)(t:Tok):Turn P w K tg (Its x) [it] it (fun i h=>h.IsStrIter it (ef x) x t i) where
 mem:=by simp
 obj:=fun i h st b hb=>by
  have e:b=it:=by simpa using hb
  subst e;obtain⟨o,e,c,d⟩:=st;exact⟨o,e,fun v z=>by rw[d]at z;cases z⟩
 keep:=fun i h h' st k=>let⟨o,ho,r⟩:=st;⟨o,k it (by simp) o ho,r⟩
 item:=by
  intro X hP hw hK hc i pins s σ H E I hf st hg;subst hP hw hK;obtain⟨f0,f1,f2,f3,f4,f5⟩:=hf it (by simp);have W:=pT (prog:=X.prog) (w:=X.w) it x t X.A (I.ok.hd hc);refine W.item i s _ _ hg st fun v h' tk hv st' kk=>?_;obtain⟨c,u,hc',rfl⟩:=hv;have I1:Inv X pins σ H {s with heap:=h',toks:=tk}:=I.turned (fun b o hb e=>kk b o (by simpa using hb) e) f0 f1 f3 f4 f5;obtain⟨o,e,cl,d⟩:=id st';refine⟨_,rfl,wD (s:={s with heap:=h',toks:=tk}) (n:=ef x) e cl d ?_ ⟨.str ⟨#[c]⟩,H,I1,⟨u,rfl⟩,⟨rfl,c,hc',rfl⟩,st',fun b hb=>(hf b hb).1⟩⟩;unfold ef;split <;>decide
 done:=by
  intro X hP hw hK hc i pins s σ H E I hf st hg;subst hP hw hK;obtain⟨f0,f1,f2,f3,f4,f5⟩:=hf it (by simp);have hg':x.length<=i:=hg;by_cases hi:i=x.cps.size
  ·subst hi
   have W:=pT (prog:=X.prog) (w:=X.w) it x t X.A (I.ok.hd hc);exact W.done s _ _ st fun h' tk kk=>⟨rfl,I.turned (fun b o hb e=>kk b o (by simpa using hb) e) f0 f1 f3 f4 f5⟩
  ·have hn:x.cps[i]? =none:=by
    rw[Array.getElem?_eq_none_iff];exact hg'
   have st2:s.heap.IsStrIter it (ef x) x t i:=st;unfold ef at st2;cases ha:x.cps.all (·<128)
   ·rw[ha]at st2
    exact wpAny_pyNext_wide_end (I.ok.hd hc) st2 hn fun h' eb=>⟨rfl,I.turned (t':=s.toks) (fun b o hb e=>eb b o hb e) f0 f1 f3 f4 f5⟩
   ·rw[ha]at st2
    exact wpAny_pyNext_ascii_end (I.ok.hd hc) st2 hn fun h' eb=>⟨rfl,I.turned (t':=s.toks) (fun b o hb e=>eb b o hb e) f0 f1 f3 f4 f5⟩
 self:=fun A i s Q E st h=>by
  have st2:s.heap.IsStrIter it (ef x) x t i:=st;unfold ef at st2;cases ha:x.cps.all (·<128)
  ·rw[ha]at st2;exact wpAny_pyIter_striter_wide st2 h
  ·rw[ha]at st2;exact wpAny_pyIter_striter_ascii st2 h
noncomputable def Ite(K:aa)(a:Addr):It:=
 ⟨fun i H=>∃xs x,SqL K H a xs/\xs[i]? =some x,fun i H v H'=>∃p x,H p=none/\H'=upd H p (.tup [.int i,x])/\v=.ref p/\∀xs,SqL K H a xs->xs[i]? =some x,fun i H=>∃xs,SqL K H a xs/\xs.length<=i⟩
theorem xi{P:Program}{w:World}{K:aa}{es:List Expr}{kk:Nat}{pp:Pos}(a it e:Addr)(hne:e≠it):Turn P w K (.Tuple es kk pp) (Ite K a) [e,it] e (fun i h=>(∃old,IsEnum h e it i old)/\h.IsListIter it a i) where
 mem:=by simp
 obj:=fun i h st b hb=>by
  obtain⟨⟨old,he⟩,o,e1,c,d⟩:=st;have hb':b=e\/b=it:=by simpa using hb
  rcases hb' with rfl|rfl
  ·exact⟨_,he,fun v z=>by cases z⟩
  ·exact⟨o,e1,fun v z=>by rw[d]at z;cases z⟩
 keep:=fun i h h' st k=>by
  obtain⟨⟨old,he⟩,hl⟩:=st;exact⟨⟨old,k e (by simp) _ he⟩,hl.at fun o q=>k it (by simp) o q⟩
 item:=by
  intro X hP hw hK hc i pins s σ H E I hf st hg;subst hP hw hK;obtain⟨xs,x,hq,hx⟩:=hg;obtain⟨its,rv,pl,hz⟩:=I.list hq;obtain⟨u,hu,ru⟩:=rv.get hx;obtain⟨⟨old,he⟩,hl⟩:=st;obtain⟨f0,f1,f2,f3,f4,f5⟩:=hf e (by simp);obtain⟨g0,g1,g2,g3,g4,g5⟩:=hf it (by simp);have hilt:i<its.toArray.size:=by
   have :=(aE.mp hu).1
   simpa using this
  have hit:it<s.heap.objs.size:=by obtain⟨o,q,_⟩:=hl;exact ay q
  have haI:a≠it:=by
   obtain⟨o,n,q,qc,_⟩:=id pl;obtain⟨o',q',qc',_⟩:=id hl;rintro rfl;rw[q]at q';cases q';rw[qc]at qc';exact absurd qc' (by decide+kernel)
  have haE:e≠a:=by
   obtain⟨o,n,q,qc,_⟩:=id pl;rintro rfl;rw[show s.heap.get? e=_ from he]at q;cases q;exact absurd (show jc "enumerate"=.type "list" from qc) (by decide+kernel)
  have D:=Draws.list (prog:=X.prog) (w:=X.w) (A:=X.A.in1) (I.ok.hd hc) it a haI its.toArray;refine wpAny_pyNext_enum_itemD D he ⟨hl,pl.isList⟩ hilt hne (by simp[hne,haE]) fun y h' tk hy ho hst ht hsz kp=>?_;have eyu:y=u:=by
   have :its[i]? =some y:=by simpa using hy
   rw[hu]at this;exact(aX this).symm
  subst eyu;have hp:H s.heap.objs.size=none:=I.hok.fresh (ao _);have nE:∀b v,H b=some v->b≠e:=fun b v q z=>by rw[z,f0]at q;cases q
  have nI:∀b v,H b=some v->b≠it:=fun b v q z=>by rw[z,g0]at q;cases q
  have I1:Inv X pins σ (upd H s.heap.objs.size (.tup [.int i,x])) {s with heap:=h',toks:=tk+1}:=by
   refine I.step (g':=s.gens) (d':=s.drawn) (ch:=[e,it]) (fun b hb=>?_) (fun b o _ _ hc' q _=>kp b o (fun z=>hc' (by simp[z])) (fun z=>hc' (by simp[z])) q)
    (fun b o _ _ hc' q _=>⟨o.slots,kp b o (fun z=>hc' (by simp[z])) (fun z=>hc' (by simp[z])) q⟩) (fun b o _ q n=>by rw[aL (aW (ay q))];exact n)
    (fun b o hc' q=>⟨o,kp b o (fun z=>hc' (by simp[z])) (fun z=>hc' (by simp[z])) q⟩) (fun b ys q=>by rw[aL (ba q hp)];exact q) (fun b o v q=>by rw[aL (ba q hp)];exact q)
    (fun b ps q=>⟨#[],by rw[aL (ba q hp),q];simp⟩) (fun m hm=>?_) (fun b v q=>?_) I.bare
   ·have hb':b=e\/b=it:=by simpa using hb
    rcases hb' with rfl|rfl
    ·exact⟨f3,f1,f4,f5⟩
    ·exact⟨g3,g1,g4,g5⟩
   ·obtain⟨o,es',ep,q,r⟩:=hm
    exact⟨o,es',ep,kp _ o (bO f1) (bO g1) q,r⟩
   ·by_cases hb:b=s.heap.objs.size
    ·subst hb
     rw[ak]at q;cases q;exact⟨by show 2<=sizeLine;decide,[.int i tk,y],.cons ⟨tk,rfl⟩ (.cons ru .nil),⟨_,ht,rfl,_,rfl⟩⟩
    ·rw[aL hb]at q
     refine(I.hok b v q).mC (fun c o hc' q'=>kp c o ?_ ?_ q') (fun c q'=>by rw[aL (ba q' hp)];exact q') fun c ys q'=>by rw[aL (ba q' hp)];exact q'
     ·rcases hc' with z|z
      ·rw[z];exact nE b v q
      ·exact nE c _ z
     ·rcases hc' with z|z
      ·rw[z];exact nI b v q
      ·exact nI c _ z
  have fe:(upd H s.heap.objs.size (.tup [.int i,x])) e=none:=by rw[aL (aW (ay he))];exact f0
  refine⟨_,rfl,wpAny_letOwnedTupleGo_enum (s:={s with heap:=h',toks:=tk+1}) ho fun h'' he'' hs''=>?_⟩;have I2:Inv X pins σ (upd H s.heap.objs.size (.tup [.int i,x])) {s with heap:=h'',toks:=tk+1}:=I1.turned (t':=tk+1) (fun b o hb q=>hs''.extBut b o hb q) fe f1 f3 f4 f5;refine⟨.ref s.heap.objs.size,_,I2,rfl,⟨_,x,hp,rfl,rfl,fun ys hy'=>by rw[I.nY hy' hq];exact hx⟩,⟨⟨y,?_⟩,hst.1.at fun o q=>hs''.extBut it o (bO hne) q⟩,fun b hb=>?_⟩
  ·have :((i:Int)+1)=((i+1:Nat):Int):=by push_cast;rfl
   rw[<-this];exact he''
  ·have hb':b=e\/b=it:=by simpa using hb
   rcases hb' with rfl|rfl
   ·exact fe
   ·rw[aL (aW hit)];exact g0
 done:=by
  intro X hP hw hK hc i pins s σ H E I hf st hg;subst hP hw hK;obtain⟨xs,hq,hx⟩:=hg;obtain⟨its,rv,pl,hz⟩:=I.list hq;obtain⟨⟨old,he⟩,hl⟩:=st;obtain⟨g0,g1,g2,g3,g4,g5⟩:=hf it (by simp);have hT:s.TypeIs (.ref e) "enumerate":=⟨_,he,rfl⟩;have hlen:=rv.length;unfold pyNext;refine af (o9 (ka (name:=aI "__next__") hT F.slot_enumerate_next
   (uf F.slot_enumerate_next hT F.entry_enumerate_next ?_ (F.args_enumerate_next_1 _))))
  show wpAny _ _ (field (.ref e) 2>>=_) _ _ _;refine af (fA he rfl (x:=.ref it) rfl ?_);refine af (wpAny_nextOf_list_end (A:=X.A.in1) (I.ok.hd hc) hl pl.isList (by simp;omega) fun h' z he' hx'=>?_);obtain⟨o,ho,hcl⟩:=hx';refine af (wpAny_isInstance (T:="StopIteration") (b:=true) ⟨o,ho,hcl⟩ isSubtype_stop ?_);exact aj ⟨rfl,I.turned (t':=s.toks) (fun b o hb q=>he' b o hb q) g0 g1 g3 g4 g5⟩
 self:=fun _ _ _ _ _ st h=>by
  obtain⟨⟨old,he⟩,_⟩:=st;exact wpAny_pyIter_enum he h
section
variable {X:Cx}{es:List Expr}{kk:Nat}{pp:Pos}
noncomputable def Ar(K:aa)(tl:TE):TI:=fun σ H R=>tl σ H fun x H1=>∃a,x=.ref a/\(∃xs,SqL K H1 a xs)/\R (Ite K a) H1
theorem pi_enum{l:Expr}{tl:TE}{p pos:Pos}(hg:Gl X "enumerate")(hm:X.mg "enumerate"=none)(hl:PE X l tl)(hs:aB [l] X.env=[(false,eval l X.env)]:=by rfl):
  PI X (.Tuple es kk pp) (.Call (.Name "enumerate" p) [l] [] pos) (Ar X.K tl):=by
 intro pins s σ H R I h;have ha:PA X [l] (iR tl pk):=eD hl hO hs;refine Call_ (lE I hg hm boot_enumerate (dm (thn (ha pos pins s σ H (fun vs H1=>∃a,vs=[.ref a]/\(∃xs,SqL X.K H1 a xs)/\R (Ite X.K a) H1) I ?_) fun us s1 ⟨vs,H1,I1,r1,q1⟩=>?_) hs rfl))
 ·show tl σ H fun x H1=>_
  have hmono:∀x H1,(∃a,x=V.ref a/\(∃xs,SqL X.K H1 a xs)/\R (Ite X.K a) H1)->(∃a,[x]=[V.ref a]/\(∃xs,SqL X.K H1 a xs)/\R (Ite X.K a) H1):=fun x H1 ⟨a,e,r⟩=>⟨a,by rw[e],r⟩;have e:(fun(x:V)(H1:Hp)=>∃a,x=V.ref a/\(∃xs,SqL X.K H1 a xs)/\R (Ite X.K a) H1)=fun x H1=>∃a,[x]=[V.ref a]/\(∃xs,SqL X.K H1 a xs)/\R (Ite X.K a) H1:=by
   funext x H1
   apply propext
   exact⟨hmono x H1,fun⟨a,e,r⟩=>⟨a,by simpa using e,r⟩⟩
  have h':tl σ H fun x H1=>∃a,[x]=[V.ref a]/\(∃xs,SqL X.K H1 a xs)/\R (Ite X.K a) H1:=by rw[<-e];exact h
  exact h'
 ·obtain⟨a,rfl,⟨xs,hq⟩,q⟩:=q1
  obtain⟨u,rfl,ru⟩:=r1.one;cases ru;obtain⟨its,rv,pl,hz⟩:=I1.list hq;refine call_enumerate_list pl.isList fun h' he hl' hsz kp=>?_;refine wpAny_pyIter_enum (s:={s1 with heap:=h'}) he ?_;have I2:Inv X pins σ H1 {s1 with heap:=h',toks:=s1.toks}:=I1.kept kp;refine⟨_,[s1.heap.objs.size+1,s1.heap.objs.size],_,_,H1,rfl,I2,xi a s1.heap.objs.size (s1.heap.objs.size+1) (Nat.succ_ne_self _),⟨⟨_,he⟩,hl'⟩,fun b hb=>?_,q⟩;have hb':b=s1.heap.objs.size+1\/b=s1.heap.objs.size:=by simpa using hb
  have hbs:s1.heap.objs.size<=b:=by
   rcases hb' with z|z
   ·rw[z];exact gr _
   ·rw[z];exact ao _
  exact I1.rB hbs (I1.hok.fresh hbs)
end
inductive D where
 |non|bl (b:Bool) |int (i:Int) |str (x:Str) |tup (ds:List D) |lst (ds:List D)
 deriving Inhabited
mutual
noncomputable def Rep(K:aa)(H:Hp):D->V->Prop
 |.non,v=>v=.non
 |.bl b,v=>v=.bl b
 |.int i,v=>v=.int i
 |.str x,v=>v=.str x
 |.tup ds,v=>∃a xs,v=.ref a/\SqT K H a xs/\gx K H ds xs
 |.lst ds,v=>∃a xs,v=.ref a/\SqL K H a xs/\gx K H ds xs
noncomputable def gx(K:aa)(H:Hp):List D->List V->Prop
 | [],xs=>xs=[]
 |d::ds,xs=>∃x r,xs=x::r/\Rep K H d x/\gx K H ds r
end
theorem aN.tup{K:aa}{H H':Hp}{a:Addr}{xs:List V}(e:aN H H')(h:SqT K H a xs):SqT K H' a xs:=by
 rcases h with(h|⟨o,h⟩) |h
 ·exact .inl (.inl (e _ _ h))
 ·exact .inl (.inr ⟨o,e _ _ h⟩)
 ·exact .inr h
theorem gx.length{K:aa}{H:Hp}:∀{ds:List D}{xs:List V},gx K H ds xs->xs.length=ds.length
 | [],_,h=>by rw[show _=[]from h];rfl
 |d::ds,_,h=>by
  obtain⟨x,r,rfl,_,h2⟩:=h;rw[aY,aY,gx.length h2]
theorem gx.at{K:aa}{H:Hp}:∀{ds:List D}{xs:List V}{i:Nat}{d:D},gx K H ds xs->ds[i]? =some d->∃x,xs[i]? =some x/\Rep K H d x
 | [],_,i,d,h,e=>by simp at e
 |d::ds,_,0,d',h,e=>by
  obtain⟨y,r,rfl,h1,h2⟩:=h;simp at e;subst e;exact⟨y,rfl,h1⟩
 |d::ds,_,i+1,d',h,e=>by
  obtain⟨y,r,rfl,h1,h2⟩:=h;obtain⟨x,e',h'⟩:=gx.at (i:=i) h2 (by simpa using e);exact⟨x,by simpa using e',h'⟩
mutual
noncomputable def eqD:D->D->Bool
 |.non,.non=>true
 |.bl a,.bl b=>a==b
 |.bl a,.int b=>(if a then 1 else 0)==b
 |.int a,.bl b=>a==(if b then 1 else 0)
 |.int a,.int b=>a==b
 |.str a,.str b=>a==b
 |.tup a,.tup b=>iI a b
 |.lst a,.lst b=>iI a b
 |_,_=>false
noncomputable def iI:List D->List D->Bool
 | [],[]=>true
 |a::as,b::bs=>eqD a b&&iI as bs
 |_,_=>false
end
mutual
noncomputable def hgt:D->Nat
 |.tup ds=>gf ds+1
 |.lst ds=>gf ds+1
 |_=>0
noncomputable def gf:List D->Nat
 | []=>0
 |d::ds=>max (hgt d) (gf ds)
end
theorem lJ:∀{ds:List D}{i:Nat}{d:D},ds[i]? =some d->hgt d<=gf ds
 | [],i,d,e=>by simp at e
 |d::ds,0,d',e=>by simp at e;subst e;simp only[gf];omega
 |d::ds,i+1,d',e=>by
  have :=lJ (i:=i) (ds:=ds) (d:=d') (by simpa using e)
  simp only[gf];omega
theorem i0:∀(as bs:List D)(e:Nat->Bool),as.length=bs.length->(∀(i:Nat) a b,as[i]? =some a->bs[i]? =some b->e i=eqD a b)->(aU as.length).all e=iI as bs
 | [],[],e,_,_=>rfl
 |a::as,b::bs,e,hl,h=>by
  rw[aY,List.range_succ_eq_map,iF,m4];have h0:=h 0 a b rfl rfl;have ih:=i0 as bs (fun i=>e (i+1)) (by simpa using hl) fun i x y hx hy=>h (i+1) x y (by simpa using hx) (by simpa using hy);rw[h0];show(eqD a b&&(aU as.length).all (fun i=>e (i+1)))=_;rw[ih,iI]
 | [],b::bs,e,hl,_=>by simp at hl
 |a::as,[],e,hl,_=>by simp at hl
theorem iZ:∀(as bs:List D),as.length≠bs.length->iI as bs=false
 | [],[],h=>absurd rfl h
 |a::as,b::bs,h=>by
  rw[iI,iZ as bs (by simpa using h),dQ]
 | [],b::bs,_=>rfl
 |a::as,[],_=>rfl
mutual
theorem oF:∀d:D,eqD d d=true
 |.non=>rfl
 |.bl b=>by simp[eqD]
 |.int i=>by simp[eqD]
 |.str x=>by simp[eqD]
 |.tup ds=>by rw[eqD];exact lL ds
 |.lst ds=>by rw[eqD];exact lL ds
theorem lL:∀ds:List D,iI ds ds=true
 | []=>rfl
 |d::ds=>by rw[iI,oF d,lL ds];rfl
end
section
variable {X:Cx}{pins:List (Addr×Obj)}{σ:St}{H:Hp}{s:Shared}
mutual
theorem Inv.qL(I:Inv X pins σ H s):∀{d d':D}{v:V},Rep X.K H d v->Rep X.K H d' v->d=d'
 |.non,d',v,h,h'=>by
  cases(show v=V.non from h);cases d'<;>first | (obtain⟨_,_,z,_⟩:=h';cases z;done) |rfl| (cases h';done)
 |.bl b,d',v,h,h'=>by
  cases(show v=V.bl b from h);cases d'<;>first | (obtain⟨_,_,z,_⟩:=h';cases z;done) | (cases h';rfl) | (cases h';done)
 |.int b,d',v,h,h'=>by
  cases(show v=V.int b from h);cases d'<;>first | (obtain⟨_,_,z,_⟩:=h';cases z;done) | (cases h';rfl) | (cases h';done)
 |.str b,d',v,h,h'=>by
  cases(show v=V.str b from h);cases d'<;>first | (obtain⟨_,_,z,_⟩:=h';cases z;done) | (cases h';rfl) | (cases h';done)
 |.tup ds,d',v,h,h'=>by
  obtain⟨a,xs,rfl,h1,h2⟩:=h;cases d' with
  |tup ds'=>
   obtain⟨b,ys,e,h1',h2'⟩:=h';cases e;have :=I.pP h1 h1';subst this;rw[Inv.nu I h2 h2']
  |lst ds'=>
   obtain⟨b,ys,e,h1',h2'⟩:=h';cases e;obtain⟨its,_,⟨o,e1,c1,_⟩,_⟩:=I.tuple h1;obtain⟨its',_,⟨o',n,e2,c2,_⟩,_⟩:=I.list h1';rw[e1]at e2;cases e2;rw[c1]at c2;exact absurd c2 (by decide+kernel)
  |_=>cases h'
 |.lst ds,d',v,h,h'=>by
  obtain⟨a,xs,rfl,h1,h2⟩:=h;cases d' with
  |lst ds'=>
   obtain⟨b,ys,e,h1',h2'⟩:=h';cases e;have :=I.nY h1 h1';subst this;rw[Inv.nu I h2 h2']
  |tup ds'=>
   obtain⟨b,ys,e,h1',h2'⟩:=h';cases e;obtain⟨its,_,⟨o,n,e1,c1,_⟩,_⟩:=I.list h1;obtain⟨its',_,⟨o',e2,c2,_⟩,_⟩:=I.tuple h1';rw[e1]at e2;cases e2;rw[c1]at c2;exact absurd c2 (by decide+kernel)
  |_=>cases h'
theorem Inv.nu(I:Inv X pins σ H s):∀{ds ds':List D}{xs:List V},gx X.K H ds xs->gx X.K H ds' xs->ds=ds'
 | [],[],_,_,_=>rfl
 | [],d::ds,xs,h,h'=>by
  obtain⟨x,r,e,_⟩:=h';rw[show xs=[]from h]at e;cases e
 |d::ds,[],xs,h,h'=>by
  obtain⟨x,r,e,_⟩:=h;rw[show xs=[]from h']at e;cases e
 |d::ds,d'::ds',xs,h,h'=>by
  obtain⟨x,r,rfl,h1,h2⟩:=h;obtain⟨y,r',e,h1',h2'⟩:=h';cases e;rw[Inv.qL I h1 h1',Inv.nu I h2 h2']
end
open PySem.SeqAt
theorem Inv.rcTup(I:Inv X pins σ H s)(A:Around){ds ds':List D}{a b:Addr}{xs ys:List V}(hit:∀(i:Nat)(d d':D)(x y:V)(u u':Value),ds[i]? =some d->ds'[i]? =some d'->Rep X.K H d x->Rep X.K H d' y->RelV x u->RelV y u'->EqAt A.in1 s u u' (eqD d d'))(h1:SqT X.K H a xs)(h2:gx X.K H ds xs)(h1':SqT X.K H b ys)(h2':gx X.K H ds' ys)(hu:A.units<cLine):RcAt A s (.ref a) (.ref b) (iI ds ds'):=by
  obtain⟨its,r,p,_⟩:=I.tuple h1;obtain⟨its',r',p',_⟩:=I.tuple h1';have l1:=h2.length;have l2:=h2'.length;have l3:=r.length;have l4:=r'.length;have key:=RcAt.tuples (e:=fun j=>match ds[j]?,ds'[j]? with |some d,some d'=>eqD d d'|_,_=>false) p p' (A:=A) (by omega) (fun j g1 g2=>by
   have g1':j<its.length:=by simpa using g1
   have g2':j<its'.length:=by simpa using g2
   have e1:ds[j]? =some ds[j]:=ah (by omega);have e2:ds'[j]? =some ds'[j]:=ah (by omega);show EqAt A.in1 s _ _ (match ds[j]?,ds'[j]? with |some d,some d'=>eqD d d'|_,_=>false);rw[e1,e2];obtain⟨x,hx,rx⟩:=h2.at e1;obtain⟨y,hy,ry⟩:=h2'.at e2;obtain⟨u,hu1,ru⟩:=r.get hx;obtain⟨u',hu2,ru'⟩:=r'.get hy;have q1:its.toArray[j]=u:=by have :its[j]? =some its[j]:=ah g1';rw[this]at hu1;simpa using hu1
   have q2:its'.toArray[j]=u':=by have :its'[j]? =some its'[j]:=ah g2';rw[this]at hu2;simpa using hu2
   rw[q1,q2];exact hit j _ _ x y u u' e1 e2 rx ry ru ru')
  have hs:its.toArray.size=ds.length:=by simp;omega
  have hs':its'.toArray.size=ds'.length:=by simp;omega
  rw[hs,hs']at key;by_cases hl:ds.length=ds'.length
  ·have e:((aU (min ds.length ds'.length)).all (fun j=>match ds[j]?,ds'[j]? with |some d,some d'=>eqD d d'|_,_=>false)&&ds.length==ds'.length)=iI ds ds':=by
    rw[<-hl,Nat.min_self,beq_self_eq_true,uC];refine i0 ds ds' _ hl fun i x y hx hy=>?_;simp only[hx,hy]
   rw[e]at key;exact key
  ·have e:((aU (min ds.length ds'.length)).all (fun j=>match ds[j]?,ds'[j]? with |some d,some d'=>eqD d d'|_,_=>false)&&ds.length==ds'.length)=iI ds ds':=by
    rw[iZ ds ds' hl,beq_eq_false_iff_ne.mpr hl,dQ]
   rw[e]at key;exact key
theorem Inv.rcLst(I:Inv X pins σ H s)(A:Around){ds ds':List D}{a b:Addr}{xs ys:List V}(hit:∀(i:Nat)(d d':D)(x y:V)(u u':Value),ds[i]? =some d->ds'[i]? =some d'->Rep X.K H d x->Rep X.K H d' y->RelV x u->RelV y u'->EqAt A.in1 s u u' (eqD d d'))(h1:SqL X.K H a xs)(h2:gx X.K H ds xs)(h1':SqL X.K H b ys)(h2':gx X.K H ds' ys)(hu:A.units<cLine):RcAt A s (.ref a) (.ref b) (iI ds ds'):=by
  obtain⟨its,r,p,_⟩:=I.list h1;obtain⟨its',r',p',_⟩:=I.list h1';have l1:=h2.length;have l2:=h2'.length;have l3:=r.length;have l4:=r'.length;by_cases hl:ds.length=ds'.length
  ·have key:=RcAt.lists (e:=fun j=>match ds[j]?,ds'[j]? with |some d,some d'=>eqD d d'|_,_=>false) p.isList p'.isList (A:=A) (by simp;omega) (by omega) (fun j g1 g2=>by
    have g1':j<its.length:=by simpa using g1
    have g2':j<its'.length:=by simpa using g2
    have e1:ds[j]? =some ds[j]:=ah (by omega);have e2:ds'[j]? =some ds'[j]:=ah (by omega);show EqAt A.in1 s _ _ (match ds[j]?,ds'[j]? with |some d,some d'=>eqD d d'|_,_=>false);rw[e1,e2];obtain⟨x,hx,rx⟩:=h2.at e1;obtain⟨y,hy,ry⟩:=h2'.at e2;obtain⟨u,hu1,ru⟩:=r.get hx;obtain⟨u',hu2,ru'⟩:=r'.get hy;have q1:its.toArray[j]=u:=by have :its[j]? =some its[j]:=ah g1';rw[this]at hu1;simpa using hu1
    have q2:its'.toArray[j]=u':=by have :its'[j]? =some its'[j]:=ah g2';rw[this]at hu2;simpa using hu2
    rw[q1,q2];exact hit j _ _ x y u u' e1 e2 rx ry ru ru')
   have hs:its.toArray.size=ds.length:=by simp;omega
   rw[hs,i0 ds ds' _ hl fun i x y hx hy=>by simp only[hx,hy]]at key;exact key
  ·have key:=RcAt.lists_lengths p.isList p'.isList (A:=A) (by simp;omega) (by omega)
   rw[iZ ds ds' hl];exact key
theorem Inv.eqAt1(I:Inv X pins σ H s){n:Nat}(A:Around)(hit:∀(m:Nat)(ds ds':List D)(i:Nat)(d d':D)(x y:V)(u u':Value),n=m+1->gf ds<=m->ds[i]? =some d->ds'[i]? =some d'->Rep X.K H d x->Rep X.K H d' y->RelV x u->RelV y u'->EqAt A.in1 s u u' (eqD d d')):
  ∀(d d':D)(v v':V)(u u':Value),Rep X.K H d v->Rep X.K H d' v'->RelV v u->RelV v' u'->hgt d<=n->A.units+n+1<cLine->EqAt A s u u' (eqD d d')
 |.tup ds,.tup ds',v,v',u,u',h,h',r,r',hn,hu=>by
  obtain⟨a,xs,rfl,h1,h2⟩:=id h;obtain⟨b,ys,rfl,h1',h2'⟩:=id h';cases r;cases r';rw[hgt]at hn;by_cases z:a=b
  ·subst z
   have e:=I.qL h h';rw[<-e,oF];exact EqAt.same _
  ·rw[eqD]
   exact EqAt.of_refs z (Inv.rcTup I A (fun i d d' x y u u' e1 e2 rx ry ru ru'=>hit (n-1) ds ds' i d d' x y u u' (by omega) (by omega) e1 e2 rx ry ru ru') h1 h2 h1' h2' (by omega))
 |.lst ds,.lst ds',v,v',u,u',h,h',r,r',hn,hu=>by
  obtain⟨a,xs,rfl,h1,h2⟩:=id h;obtain⟨b,ys,rfl,h1',h2'⟩:=id h';cases r;cases r';rw[hgt]at hn;by_cases z:a=b
  ·subst z
   have e:=I.qL h h';rw[<-e,oF];exact EqAt.same _
  ·rw[eqD]
   exact EqAt.of_refs z (Inv.rcLst I A (fun i d d' x y u u' e1 e2 rx ry ru ru'=>hit (n-1) ds ds' i d d' x y u u' (by omega) (by omega) e1 e2 rx ry ru ru') h1 h2 h1' h2' (by omega))
 |.tup ds,.lst ds',v,v',u,u',h,h',r,r',hn,hu=>by
  obtain⟨a,xs,rfl,h1,h2⟩:=id h;obtain⟨b,ys,rfl,h1',h2'⟩:=id h';cases r;cases r';obtain⟨its,_,p,_⟩:=I.tuple h1;obtain⟨its',_,p',_⟩:=I.list h1';exact EqAt.tuple_list p p'.isList (by omega)
 |.lst ds,.tup ds',v,v',u,u',h,h',r,r',hn,hu=>by
  obtain⟨a,xs,rfl,h1,h2⟩:=id h;obtain⟨b,ys,rfl,h1',h2'⟩:=id h';cases r;cases r';obtain⟨its,_,p,_⟩:=I.list h1;obtain⟨its',_,p',_⟩:=I.tuple h1';exact EqAt.list_tuple p.isList p' (by omega)
 |.tup ds,.non,v,v',u,u',h,h',r,r',hn,hu=>by
  obtain⟨a,xs,rfl,h1,h2⟩:=id h;cases(show v'=_ from h');cases r;cases r';obtain⟨its,_,p,_⟩:=I.tuple h1;exact EqAt.tuple_none p (by omega)
 |.tup ds,.bl _,v,v',u,u',h,h',r,r',hn,hu=>by
  obtain⟨a,xs,rfl,h1,h2⟩:=id h;cases(show v'=_ from h');cases r;cases r';obtain⟨its,_,p,_⟩:=I.tuple h1;exact EqAt.tuple_bool _ p (by omega)
 |.tup ds,.int _,v,v',u,u',h,h',r,r',hn,hu=>by
  obtain⟨a,xs,rfl,h1,h2⟩:=id h;cases(show v'=_ from h');cases r;obtain⟨t,rfl⟩:=r';obtain⟨its,_,p,_⟩:=I.tuple h1;exact EqAt.tuple_int _ t p (by omega)
 |.tup ds,.str _,v,v',u,u',h,h',r,r',hn,hu=>by
  obtain⟨a,xs,rfl,h1,h2⟩:=id h;cases(show v'=_ from h');cases r;obtain⟨t,rfl⟩:=r';obtain⟨its,_,p,_⟩:=I.tuple h1;exact EqAt.tuple_str _ t p (by omega)
 |.lst ds,.non,v,v',u,u',h,h',r,r',hn,hu=>by
  obtain⟨a,xs,rfl,h1,h2⟩:=id h;cases(show v'=_ from h');cases r;cases r';obtain⟨its,_,p,_⟩:=I.list h1;exact EqAt.list_none p.isList (by omega)
 |.lst ds,.bl _,v,v',u,u',h,h',r,r',hn,hu=>by
  obtain⟨a,xs,rfl,h1,h2⟩:=id h;cases(show v'=_ from h');cases r;cases r';obtain⟨its,_,p,_⟩:=I.list h1;exact EqAt.list_bool _ p.isList (by omega)
 |.lst ds,.int _,v,v',u,u',h,h',r,r',hn,hu=>by
  obtain⟨a,xs,rfl,h1,h2⟩:=id h;cases(show v'=_ from h');cases r;obtain⟨t,rfl⟩:=r';obtain⟨its,_,p,_⟩:=I.list h1;exact EqAt.list_int _ t p.isList (by omega)
 |.lst ds,.str _,v,v',u,u',h,h',r,r',hn,hu=>by
  obtain⟨a,xs,rfl,h1,h2⟩:=id h;cases(show v'=_ from h');cases r;obtain⟨t,rfl⟩:=r';obtain⟨its,_,p,_⟩:=I.list h1;exact EqAt.list_str _ t p.isList (by omega)
 |.non,.tup ds,v,v',u,u',h,h',r,r',hn,hu=>by
  obtain⟨a,xs,rfl,h1,h2⟩:=id h';cases(show v=_ from h);cases r;cases r';obtain⟨its,_,p,_⟩:=I.tuple h1;exact EqAt.none_tuple p (by omega)
 |.bl _,.tup ds,v,v',u,u',h,h',r,r',hn,hu=>by
  obtain⟨a,xs,rfl,h1,h2⟩:=id h';cases(show v=_ from h);cases r;cases r';obtain⟨its,_,p,_⟩:=I.tuple h1;exact EqAt.bool_tuple _ p (by omega)
 |.int _,.tup ds,v,v',u,u',h,h',r,r',hn,hu=>by
  obtain⟨a,xs,rfl,h1,h2⟩:=id h';cases(show v=_ from h);cases r';obtain⟨t,rfl⟩:=r;obtain⟨its,_,p,_⟩:=I.tuple h1;exact EqAt.int_tuple _ t p (by omega)
 |.str _,.tup ds,v,v',u,u',h,h',r,r',hn,hu=>by
  obtain⟨a,xs,rfl,h1,h2⟩:=id h';cases(show v=_ from h);cases r';obtain⟨t,rfl⟩:=r;obtain⟨its,_,p,_⟩:=I.tuple h1;exact EqAt.str_tuple _ t p (by omega)
 |.non,.lst ds,v,v',u,u',h,h',r,r',hn,hu=>by
  obtain⟨a,xs,rfl,h1,h2⟩:=id h';cases(show v=_ from h);cases r;cases r';obtain⟨its,_,p,_⟩:=I.list h1;exact EqAt.none_list p.isList (by omega)
 |.bl _,.lst ds,v,v',u,u',h,h',r,r',hn,hu=>by
  obtain⟨a,xs,rfl,h1,h2⟩:=id h';cases(show v=_ from h);cases r;cases r';obtain⟨its,_,p,_⟩:=I.list h1;exact EqAt.bool_list _ p.isList (by omega)
 |.int _,.lst ds,v,v',u,u',h,h',r,r',hn,hu=>by
  obtain⟨a,xs,rfl,h1,h2⟩:=id h';cases(show v=_ from h);cases r';obtain⟨t,rfl⟩:=r;obtain⟨its,_,p,_⟩:=I.list h1;exact EqAt.int_list _ t p.isList (by omega)
 |.str _,.lst ds,v,v',u,u',h,h',r,r',hn,hu=>by
  obtain⟨a,xs,rfl,h1,h2⟩:=id h';cases(show v=_ from h);cases r';obtain⟨t,rfl⟩:=r;obtain⟨its,_,p,_⟩:=I.list h1;exact EqAt.str_list _ t p.isList (by omega)
 |.non,.non,v,v',u,u',h,h',r,r',hn,hu=>by cases(show v=_ from h);cases(show v'=_ from h');exact dA r r' rfl rfl
 |.non,.bl _,v,v',u,u',h,h',r,r',hn,hu=>by cases(show v=_ from h);cases(show v'=_ from h');exact dA r r' rfl rfl
 |.non,.int _,v,v',u,u',h,h',r,r',hn,hu=>by cases(show v=_ from h);cases(show v'=_ from h');exact dA r r' rfl rfl
 |.non,.str _,v,v',u,u',h,h',r,r',hn,hu=>by cases(show v=_ from h);cases(show v'=_ from h');exact dA r r' rfl rfl
 |.bl _,.non,v,v',u,u',h,h',r,r',hn,hu=>by cases(show v=_ from h);cases(show v'=_ from h');exact dA r r' rfl rfl
 |.bl _,.bl _,v,v',u,u',h,h',r,r',hn,hu=>by cases(show v=_ from h);cases(show v'=_ from h');exact dA r r' rfl rfl
 |.bl _,.int _,v,v',u,u',h,h',r,r',hn,hu=>by cases(show v=_ from h);cases(show v'=_ from h');exact dA r r' rfl rfl
 |.bl _,.str _,v,v',u,u',h,h',r,r',hn,hu=>by cases(show v=_ from h);cases(show v'=_ from h');exact dA r r' rfl rfl
 |.int _,.non,v,v',u,u',h,h',r,r',hn,hu=>by cases(show v=_ from h);cases(show v'=_ from h');exact dA r r' rfl rfl
 |.int _,.bl _,v,v',u,u',h,h',r,r',hn,hu=>by cases(show v=_ from h);cases(show v'=_ from h');exact dA r r' rfl rfl
 |.int _,.int _,v,v',u,u',h,h',r,r',hn,hu=>by cases(show v=_ from h);cases(show v'=_ from h');exact dA r r' rfl rfl
 |.int _,.str _,v,v',u,u',h,h',r,r',hn,hu=>by cases(show v=_ from h);cases(show v'=_ from h');exact dA r r' rfl rfl
 |.str _,.non,v,v',u,u',h,h',r,r',hn,hu=>by cases(show v=_ from h);cases(show v'=_ from h');exact dA r r' rfl rfl
 |.str _,.bl _,v,v',u,u',h,h',r,r',hn,hu=>by cases(show v=_ from h);cases(show v'=_ from h');exact dA r r' rfl rfl
 |.str _,.int _,v,v',u,u',h,h',r,r',hn,hu=>by cases(show v=_ from h);cases(show v'=_ from h');exact dA r r' rfl rfl
 |.str _,.str _,v,v',u,u',h,h',r,r',hn,hu=>by cases(show v=_ from h);cases(show v'=_ from h');exact dA r r' rfl rfl
theorem Inv.wK(I:Inv X pins σ H s):∀(n:Nat)(A:Around)(d d':D)(v v':V)(u u':Value),Rep X.K H d v->Rep X.K H d' v'->RelV v u->RelV v' u'->hgt d<=n->A.units+n+1<cLine->EqAt A s u u' (eqD d d'):=by
 intro n
 induction n with
 |zero=>exact fun A d d' v v' u u' h h' r r' hn hu=>Inv.eqAt1 I A (fun m ds ds' i d d' x y u u' hm _ _ _ _ _ _ _=>absurd hm (by omega)) d d' v v' u u' h h' r r' hn hu
 |succ n ih=>
  exact fun A d d' v v' u u' h h' r r' hn hu=>Inv.eqAt1 I A (fun m ds ds' i d d' x y u u' hm hd e1 e2 rx ry ru ru'=>ih A.in1 d d' x y u u' rx ry ru ru' (by have :=lJ e1;omega) (by show A.units+1+n+1<cLine;omega)) d d' v v' u u' h h' r r' hn hu
end
end L2
namespace L2
open PySem PySem.Spec PyProof.Rows PySem.SeqAt
section
variable {X:Cx}{pins:List (Addr×Obj)}{σ:St}{H:Hp}{s:Shared}
theorem Inv.neTup(I:Inv X pins σ H s)(A:Around){ds ds':List D}{a b:Addr}{xs ys:List V}(hit:∀(i:Nat)(d d':D)(x y:V)(u u':Value),ds[i]? =some d->ds'[i]? =some d'->Rep X.K H d x->Rep X.K H d' y->RelV x u->RelV y u'->EqAt A.in1 s u u' (eqD d d'))
  (h1:SqT X.K H a xs)(h2:gx X.K H ds xs)(h1':SqT X.K H b ys)(h2':gx X.K H ds' ys)(hu:A.units<cLine):RcNeAt A s (.ref a) (.ref b) (!iI ds ds'):=by
 obtain⟨its,r,p,_⟩:=I.tuple h1;obtain⟨its',r',p',_⟩:=I.tuple h1';have l1:=h2.length;have l2:=h2'.length;have l3:=r.length;have l4:=r'.length;have key:=RcNeAt.tuples (e:=fun j=>match ds[j]?,ds'[j]? with |some d,some d'=>eqD d d'|_,_=>false) p p' (A:=A) hu (fun j g1 g2=>by
  have g1':j<its.length:=by simpa using g1
  have g2':j<its'.length:=by simpa using g2
  have e1:ds[j]? =some ds[j]:=ah (by omega);have e2:ds'[j]? =some ds'[j]:=ah (by omega);show EqAt A.in1 s _ _ (match ds[j]?,ds'[j]? with |some d,some d'=>eqD d d'|_,_=>false);rw[e1,e2];obtain⟨x,hx,rx⟩:=h2.at e1;obtain⟨y,hy,ry⟩:=h2'.at e2;obtain⟨u,hu1,ru⟩:=r.get hx;obtain⟨u',hu2,ru'⟩:=r'.get hy;have q1:its.toArray[j]=u:=by have :its[j]? =some its[j]:=ah g1';rw[this]at hu1;simpa using hu1
  have q2:its'.toArray[j]=u':=by have :its'[j]? =some its'[j]:=ah g2';rw[this]at hu2;simpa using hu2
  rw[q1,q2];exact hit j _ _ x y u u' e1 e2 rx ry ru ru')
 have hs:its.toArray.size=ds.length:=by simp;omega
 have hs':its'.toArray.size=ds'.length:=by simp;omega
 rw[hs,hs']at key;have e:((aU (min ds.length ds'.length)).all (fun j=>match ds[j]?,ds'[j]? with |some d,some d'=>eqD d d'|_,_=>false)&&ds.length==ds'.length)=iI ds ds':=by
  by_cases hl:ds.length=ds'.length
  ·rw[<-hl,Nat.min_self,beq_self_eq_true,uC]
   refine i0 ds ds' _ hl fun i x y hx hy=>?_;simp only[hx,hy]
  ·rw[iZ ds ds' hl,beq_eq_false_iff_ne.mpr hl,dQ]
 rw[e]at key;exact key
theorem Inv.neLst(I:Inv X pins σ H s)(A:Around){ds ds':List D}{a b:Addr}{xs ys:List V}(hit:∀(i:Nat)(d d':D)(x y:V)(u u':Value),ds[i]? =some d->ds'[i]? =some d'->Rep X.K H d x->Rep X.K H d' y->RelV x u->RelV y u'->EqAt A.in1 s u u' (eqD d d'))
  (h1:SqL X.K H a xs)(h2:gx X.K H ds xs)(h1':SqL X.K H b ys)(h2':gx X.K H ds' ys)(hu:A.units<cLine):RcNeAt A s (.ref a) (.ref b) (!iI ds ds'):=by
 obtain⟨its,r,p,_⟩:=I.list h1;obtain⟨its',r',p',_⟩:=I.list h1';have l1:=h2.length;have l2:=h2'.length;have l3:=r.length;have l4:=r'.length;by_cases hl:ds.length=ds'.length
 ·have key:=RcNeAt.lists (e:=fun j=>match ds[j]?,ds'[j]? with |some d,some d'=>eqD d d'|_,_=>false) p.isList p'.isList (A:=A) (by simp;omega) hu (fun j g1 g2=>by
   have g1':j<its.length:=by simpa using g1
   have g2':j<its'.length:=by simpa using g2
   have e1:ds[j]? =some ds[j]:=ah (by omega);have e2:ds'[j]? =some ds'[j]:=ah (by omega);show EqAt A.in1 s _ _ (match ds[j]?,ds'[j]? with |some d,some d'=>eqD d d'|_,_=>false);rw[e1,e2];obtain⟨x,hx,rx⟩:=h2.at e1;obtain⟨y,hy,ry⟩:=h2'.at e2;obtain⟨u,hu1,ru⟩:=r.get hx;obtain⟨u',hu2,ru'⟩:=r'.get hy;have q1:its.toArray[j]=u:=by have :its[j]? =some its[j]:=ah g1';rw[this]at hu1;simpa using hu1
   have q2:its'.toArray[j]=u':=by have :its'[j]? =some its'[j]:=ah g2';rw[this]at hu2;simpa using hu2
   rw[q1,q2];exact hit j _ _ x y u u' e1 e2 rx ry ru ru')
  have hs:its.toArray.size=ds.length:=by simp;omega
  rw[hs,i0 ds ds' _ hl fun i x y hx hy=>by simp only[hx,hy]]at key;exact key
 ·have key:=RcNeAt.lists_lengths p.isList p'.isList (A:=A) (by simp;omega) hu
  rw[iZ ds ds' hl];exact key
theorem Inv.rcD(I:Inv X pins σ H s)(A:Around):∀(d d':D)(v v':V)(u u':Value),Rep X.K H d v->Rep X.K H d' v'->RelV v u->RelV v' u'->A.units+hgt d+1<cLine->RcAt A s u u' (eqD d d')
 |.non,.non,v,v',u,u',h,h',r,r',hu=>by cases(show v=_ from h);cases r;cases(show v'=_ from h');cases r';exact RcAt.none_none
 |.non,.bl w2,v,v',u,u',h,h',r,r',hu=>by cases(show v=_ from h);cases r;cases(show v'=_ from h');cases r';exact RcAt.none_bool _
 |.non,.int w2,v,v',u,u',h,h',r,r',hu=>by cases(show v=_ from h);cases r;cases(show v'=_ from h');obtain⟨t',rfl⟩:=r';exact RcAt.none_int _ t'
 |.non,.str w2,v,v',u,u',h,h',r,r',hu=>by cases(show v=_ from h);cases r;cases(show v'=_ from h');obtain⟨t',rfl⟩:=r';exact RcAt.none_str _ t'
 |.non,.tup ds',v,v',u,u',h,h',r,r',hu=>by cases(show v=_ from h);cases r;obtain⟨b,ys,rfl,h1',h2'⟩:=id h';cases r';obtain⟨its',_,p',_⟩:=I.tuple h1';exact RcAt.none_tuple p' (by omega)
 |.non,.lst ds',v,v',u,u',h,h',r,r',hu=>by cases(show v=_ from h);cases r;obtain⟨b,ys,rfl,h1',h2'⟩:=id h';cases r';obtain⟨its',_,p',_⟩:=I.list h1';exact RcAt.none_list p'.isList (by omega)
 |.bl w1,.non,v,v',u,u',h,h',r,r',hu=>by cases(show v=_ from h);cases r;cases(show v'=_ from h');cases r';exact RcAt.bool_none _
 |.bl w1,.bl w2,v,v',u,u',h,h',r,r',hu=>by cases(show v=_ from h);cases r;cases(show v'=_ from h');cases r';exact RcAt.bool_bool _ _
 |.bl w1,.int w2,v,v',u,u',h,h',r,r',hu=>by cases(show v=_ from h);cases r;cases(show v'=_ from h');obtain⟨t',rfl⟩:=r';exact RcAt.bool_int _ _ t'
 |.bl w1,.str w2,v,v',u,u',h,h',r,r',hu=>by cases(show v=_ from h);cases r;cases(show v'=_ from h');obtain⟨t',rfl⟩:=r';exact RcAt.bool_str _ _ t'
 |.bl w1,.tup ds',v,v',u,u',h,h',r,r',hu=>by cases(show v=_ from h);cases r;obtain⟨b,ys,rfl,h1',h2'⟩:=id h';cases r';obtain⟨its',_,p',_⟩:=I.tuple h1';exact RcAt.bool_tuple _ p' (by omega)
 |.bl w1,.lst ds',v,v',u,u',h,h',r,r',hu=>by cases(show v=_ from h);cases r;obtain⟨b,ys,rfl,h1',h2'⟩:=id h';cases r';obtain⟨its',_,p',_⟩:=I.list h1';exact RcAt.bool_list _ p'.isList (by omega)
 |.int w1,.non,v,v',u,u',h,h',r,r',hu=>by cases(show v=_ from h);obtain⟨t,rfl⟩:=r;cases(show v'=_ from h');cases r';exact RcAt.int_none _ t
 |.int w1,.bl w2,v,v',u,u',h,h',r,r',hu=>by cases(show v=_ from h);obtain⟨t,rfl⟩:=r;cases(show v'=_ from h');cases r';exact RcAt.int_bool _ t _
 |.int w1,.int w2,v,v',u,u',h,h',r,r',hu=>by cases(show v=_ from h);obtain⟨t,rfl⟩:=r;cases(show v'=_ from h');obtain⟨t',rfl⟩:=r';exact RcAt.int_int _ t _ t'
 |.int w1,.str w2,v,v',u,u',h,h',r,r',hu=>by cases(show v=_ from h);obtain⟨t,rfl⟩:=r;cases(show v'=_ from h');obtain⟨t',rfl⟩:=r';exact RcAt.int_str _ t _ t'
 |.int w1,.tup ds',v,v',u,u',h,h',r,r',hu=>by cases(show v=_ from h);obtain⟨t,rfl⟩:=r;obtain⟨b,ys,rfl,h1',h2'⟩:=id h';cases r';obtain⟨its',_,p',_⟩:=I.tuple h1';exact RcAt.int_tuple _ t p' (by omega)
 |.int w1,.lst ds',v,v',u,u',h,h',r,r',hu=>by cases(show v=_ from h);obtain⟨t,rfl⟩:=r;obtain⟨b,ys,rfl,h1',h2'⟩:=id h';cases r';obtain⟨its',_,p',_⟩:=I.list h1';exact RcAt.int_list _ t p'.isList (by omega)
 |.str w1,.non,v,v',u,u',h,h',r,r',hu=>by cases(show v=_ from h);obtain⟨t,rfl⟩:=r;cases(show v'=_ from h');cases r';exact RcAt.str_none _ t
 |.str w1,.bl w2,v,v',u,u',h,h',r,r',hu=>by cases(show v=_ from h);obtain⟨t,rfl⟩:=r;cases(show v'=_ from h');cases r';exact RcAt.str_bool _ t _
 |.str w1,.int w2,v,v',u,u',h,h',r,r',hu=>by cases(show v=_ from h);obtain⟨t,rfl⟩:=r;cases(show v'=_ from h');obtain⟨t',rfl⟩:=r';exact RcAt.str_int _ t _ t'
 |.str w1,.str w2,v,v',u,u',h,h',r,r',hu=>by cases(show v=_ from h);obtain⟨t,rfl⟩:=r;cases(show v'=_ from h');obtain⟨t',rfl⟩:=r';exact RcAt.str_str _ t _ t'
 |.str w1,.tup ds',v,v',u,u',h,h',r,r',hu=>by cases(show v=_ from h);obtain⟨t,rfl⟩:=r;obtain⟨b,ys,rfl,h1',h2'⟩:=id h';cases r';obtain⟨its',_,p',_⟩:=I.tuple h1';exact RcAt.str_tuple _ t p' (by omega)
 |.str w1,.lst ds',v,v',u,u',h,h',r,r',hu=>by cases(show v=_ from h);obtain⟨t,rfl⟩:=r;obtain⟨b,ys,rfl,h1',h2'⟩:=id h';cases r';obtain⟨its',_,p',_⟩:=I.list h1';exact RcAt.str_list _ t p'.isList (by omega)
 |.tup ds,.non,v,v',u,u',h,h',r,r',hu=>by obtain⟨a,xs,rfl,h1,h2⟩:=id h;cases r;cases(show v'=_ from h');cases r';obtain⟨its,_,p,_⟩:=I.tuple h1;exact RcAt.tuple_none p (by omega)
 |.tup ds,.bl w2,v,v',u,u',h,h',r,r',hu=>by obtain⟨a,xs,rfl,h1,h2⟩:=id h;cases r;cases(show v'=_ from h');cases r';obtain⟨its,_,p,_⟩:=I.tuple h1;exact RcAt.tuple_bool _ p (by omega)
 |.tup ds,.int w2,v,v',u,u',h,h',r,r',hu=>by obtain⟨a,xs,rfl,h1,h2⟩:=id h;cases r;cases(show v'=_ from h');obtain⟨t',rfl⟩:=r';obtain⟨its,_,p,_⟩:=I.tuple h1;exact RcAt.tuple_int _ t' p (by omega)
 |.tup ds,.str w2,v,v',u,u',h,h',r,r',hu=>by obtain⟨a,xs,rfl,h1,h2⟩:=id h;cases r;cases(show v'=_ from h');obtain⟨t',rfl⟩:=r';obtain⟨its,_,p,_⟩:=I.tuple h1;exact RcAt.tuple_str _ t' p (by omega)
 |.tup ds,.tup ds',v,v',u,u',h,h',r,r',hu=>by obtain⟨a,xs,rfl,h1,h2⟩:=id h;cases r;obtain⟨b,ys,rfl,h1',h2'⟩:=id h';cases r';rw[eqD];exact Inv.rcTup I A (fun i d d' x y u u' e1 e2 rx ry ru ru'=>Inv.wK I (gf ds) A.in1 d d' x y u u' rx ry ru ru' (lJ e1) (by rw[hgt]at hu;show A.units+1+gf ds+1<cLine;omega)) h1 h2 h1' h2' (by omega)
 |.tup ds,.lst ds',v,v',u,u',h,h',r,r',hu=>by obtain⟨a,xs,rfl,h1,h2⟩:=id h;cases r;obtain⟨b,ys,rfl,h1',h2'⟩:=id h';cases r';obtain⟨its,_,p,_⟩:=I.tuple h1;obtain⟨its',_,p',_⟩:=I.list h1';exact RcAt.tuple_list p p'.isList (by omega)
 |.lst ds,.non,v,v',u,u',h,h',r,r',hu=>by obtain⟨a,xs,rfl,h1,h2⟩:=id h;cases r;cases(show v'=_ from h');cases r';obtain⟨its,_,p,_⟩:=I.list h1;exact RcAt.list_none p.isList (by omega)
 |.lst ds,.bl w2,v,v',u,u',h,h',r,r',hu=>by obtain⟨a,xs,rfl,h1,h2⟩:=id h;cases r;cases(show v'=_ from h');cases r';obtain⟨its,_,p,_⟩:=I.list h1;exact RcAt.list_bool _ p.isList (by omega)
 |.lst ds,.int w2,v,v',u,u',h,h',r,r',hu=>by obtain⟨a,xs,rfl,h1,h2⟩:=id h;cases r;cases(show v'=_ from h');obtain⟨t',rfl⟩:=r';obtain⟨its,_,p,_⟩:=I.list h1;exact RcAt.list_int _ t' p.isList (by omega)
 |.lst ds,.str w2,v,v',u,u',h,h',r,r',hu=>by obtain⟨a,xs,rfl,h1,h2⟩:=id h;cases r;cases(show v'=_ from h');obtain⟨t',rfl⟩:=r';obtain⟨its,_,p,_⟩:=I.list h1;exact RcAt.list_str _ t' p.isList (by omega)
 |.lst ds,.tup ds',v,v',u,u',h,h',r,r',hu=>by obtain⟨a,xs,rfl,h1,h2⟩:=id h;cases r;obtain⟨b,ys,rfl,h1',h2'⟩:=id h';cases r';obtain⟨its,_,p,_⟩:=I.list h1;obtain⟨its',_,p',_⟩:=I.tuple h1';exact RcAt.list_tuple p.isList p' (by omega)
 |.lst ds,.lst ds',v,v',u,u',h,h',r,r',hu=>by obtain⟨a,xs,rfl,h1,h2⟩:=id h;cases r;obtain⟨b,ys,rfl,h1',h2'⟩:=id h';cases r';rw[eqD];exact Inv.rcLst I A (fun i d d' x y u u' e1 e2 rx ry ru ru'=>Inv.wK I (gf ds) A.in1 d d' x y u u' rx ry ru ru' (lJ e1) (by rw[hgt]at hu;show A.units+1+gf ds+1<cLine;omega)) h1 h2 h1' h2' (by omega)
theorem Inv.rcNeD(I:Inv X pins σ H s)(A:Around):∀(d d':D)(v v':V)(u u':Value),Rep X.K H d v->Rep X.K H d' v'->RelV v u->RelV v' u'->A.units+hgt d+1<cLine->RcNeAt A s u u' (!eqD d d')
 |.non,.non,v,v',u,u',h,h',r,r',hu=>by cases(show v=_ from h);cases r;cases(show v'=_ from h');cases r';exact RcNeAt.none_none
 |.non,.bl w2,v,v',u,u',h,h',r,r',hu=>by cases(show v=_ from h);cases r;cases(show v'=_ from h');cases r';exact RcNeAt.none_bool _
 |.non,.int w2,v,v',u,u',h,h',r,r',hu=>by cases(show v=_ from h);cases r;cases(show v'=_ from h');obtain⟨t',rfl⟩:=r';exact RcNeAt.none_int _ t'
 |.non,.str w2,v,v',u,u',h,h',r,r',hu=>by cases(show v=_ from h);cases r;cases(show v'=_ from h');obtain⟨t',rfl⟩:=r';exact RcNeAt.none_str _ t'
 |.non,.tup ds',v,v',u,u',h,h',r,r',hu=>by cases(show v=_ from h);cases r;obtain⟨b,ys,rfl,h1',h2'⟩:=id h';cases r';obtain⟨its',_,p',_⟩:=I.tuple h1';exact RcNeAt.none_tuple p' (by omega)
 |.non,.lst ds',v,v',u,u',h,h',r,r',hu=>by cases(show v=_ from h);cases r;obtain⟨b,ys,rfl,h1',h2'⟩:=id h';cases r';obtain⟨its',_,p',_⟩:=I.list h1';exact RcNeAt.none_list p'.isList (by omega)
 |.bl w1,.non,v,v',u,u',h,h',r,r',hu=>by cases(show v=_ from h);cases r;cases(show v'=_ from h');cases r';exact RcNeAt.bool_none _
 |.bl w1,.bl w2,v,v',u,u',h,h',r,r',hu=>by cases(show v=_ from h);cases r;cases(show v'=_ from h');cases r';exact RcNeAt.bool_bool _ _
 |.bl w1,.int w2,v,v',u,u',h,h',r,r',hu=>by cases(show v=_ from h);cases r;cases(show v'=_ from h');obtain⟨t',rfl⟩:=r';exact RcNeAt.bool_int _ _ t'
 |.bl w1,.str w2,v,v',u,u',h,h',r,r',hu=>by cases(show v=_ from h);cases r;cases(show v'=_ from h');obtain⟨t',rfl⟩:=r';exact RcNeAt.bool_str _ _ t'
 |.bl w1,.tup ds',v,v',u,u',h,h',r,r',hu=>by cases(show v=_ from h);cases r;obtain⟨b,ys,rfl,h1',h2'⟩:=id h';cases r';obtain⟨its',_,p',_⟩:=I.tuple h1';exact RcNeAt.bool_tuple _ p' (by omega)
 |.bl w1,.lst ds',v,v',u,u',h,h',r,r',hu=>by cases(show v=_ from h);cases r;obtain⟨b,ys,rfl,h1',h2'⟩:=id h';cases r';obtain⟨its',_,p',_⟩:=I.list h1';exact RcNeAt.bool_list _ p'.isList (by omega)
 |.int w1,.non,v,v',u,u',h,h',r,r',hu=>by cases(show v=_ from h);obtain⟨t,rfl⟩:=r;cases(show v'=_ from h');cases r';exact RcNeAt.int_none _ t
 |.int w1,.bl w2,v,v',u,u',h,h',r,r',hu=>by cases(show v=_ from h);obtain⟨t,rfl⟩:=r;cases(show v'=_ from h');cases r';exact RcNeAt.int_bool _ t _
 |.int w1,.int w2,v,v',u,u',h,h',r,r',hu=>by cases(show v=_ from h);obtain⟨t,rfl⟩:=r;cases(show v'=_ from h');obtain⟨t',rfl⟩:=r';exact RcNeAt.int_int _ t _ t'
 |.int w1,.str w2,v,v',u,u',h,h',r,r',hu=>by cases(show v=_ from h);obtain⟨t,rfl⟩:=r;cases(show v'=_ from h');obtain⟨t',rfl⟩:=r';exact RcNeAt.int_str _ t _ t'
 |.int w1,.tup ds',v,v',u,u',h,h',r,r',hu=>by cases(show v=_ from h);obtain⟨t,rfl⟩:=r;obtain⟨b,ys,rfl,h1',h2'⟩:=id h';cases r';obtain⟨its',_,p',_⟩:=I.tuple h1';exact RcNeAt.int_tuple _ t p' (by omega)
 |.int w1,.lst ds',v,v',u,u',h,h',r,r',hu=>by cases(show v=_ from h);obtain⟨t,rfl⟩:=r;obtain⟨b,ys,rfl,h1',h2'⟩:=id h';cases r';obtain⟨its',_,p',_⟩:=I.list h1';exact RcNeAt.int_list _ t p'.isList (by omega)
 |.str w1,.non,v,v',u,u',h,h',r,r',hu=>by cases(show v=_ from h);obtain⟨t,rfl⟩:=r;cases(show v'=_ from h');cases r';exact RcNeAt.str_none _ t
 |.str w1,.bl w2,v,v',u,u',h,h',r,r',hu=>by cases(show v=_ from h);obtain⟨t,rfl⟩:=r;cases(show v'=_ from h');cases r';exact RcNeAt.str_bool _ t _
 |.str w1,.int w2,v,v',u,u',h,h',r,r',hu=>by cases(show v=_ from h);obtain⟨t,rfl⟩:=r;cases(show v'=_ from h');obtain⟨t',rfl⟩:=r';exact RcNeAt.str_int _ t _ t'
 |.str w1,.str w2,v,v',u,u',h,h',r,r',hu=>by cases(show v=_ from h);obtain⟨t,rfl⟩:=r;cases(show v'=_ from h');obtain⟨t',rfl⟩:=r';exact RcNeAt.str_str _ t _ t'
 |.str w1,.tup ds',v,v',u,u',h,h',r,r',hu=>by cases(show v=_ from h);obtain⟨t,rfl⟩:=r;obtain⟨b,ys,rfl,h1',h2'⟩:=id h';cases r';obtain⟨its',_,p',_⟩:=I.tuple h1';exact RcNeAt.str_tuple _ t p' (by omega)
 |.str w1,.lst ds',v,v',u,u',h,h',r,r',hu=>by cases(show v=_ from h);obtain⟨t,rfl⟩:=r;obtain⟨b,ys,rfl,h1',h2'⟩:=id h';cases r';obtain⟨its',_,p',_⟩:=I.list h1';exact RcNeAt.str_list _ t p'.isList (by omega)
 |.tup ds,.non,v,v',u,u',h,h',r,r',hu=>by obtain⟨a,xs,rfl,h1,h2⟩:=id h;cases r;cases(show v'=_ from h');cases r';obtain⟨its,_,p,_⟩:=I.tuple h1;exact RcNeAt.tuple_none p (by omega)
 |.tup ds,.bl w2,v,v',u,u',h,h',r,r',hu=>by obtain⟨a,xs,rfl,h1,h2⟩:=id h;cases r;cases(show v'=_ from h');cases r';obtain⟨its,_,p,_⟩:=I.tuple h1;exact RcNeAt.tuple_bool _ p (by omega)
 |.tup ds,.int w2,v,v',u,u',h,h',r,r',hu=>by obtain⟨a,xs,rfl,h1,h2⟩:=id h;cases r;cases(show v'=_ from h');obtain⟨t',rfl⟩:=r';obtain⟨its,_,p,_⟩:=I.tuple h1;exact RcNeAt.tuple_int _ t' p (by omega)
 |.tup ds,.str w2,v,v',u,u',h,h',r,r',hu=>by obtain⟨a,xs,rfl,h1,h2⟩:=id h;cases r;cases(show v'=_ from h');obtain⟨t',rfl⟩:=r';obtain⟨its,_,p,_⟩:=I.tuple h1;exact RcNeAt.tuple_str _ t' p (by omega)
 |.tup ds,.tup ds',v,v',u,u',h,h',r,r',hu=>by obtain⟨a,xs,rfl,h1,h2⟩:=id h;cases r;obtain⟨b,ys,rfl,h1',h2'⟩:=id h';cases r';rw[eqD];exact Inv.neTup I A (fun i d d' x y u u' e1 e2 rx ry ru ru'=>Inv.wK I (gf ds) A.in1 d d' x y u u' rx ry ru ru' (lJ e1) (by rw[hgt]at hu;show A.units+1+gf ds+1<cLine;omega)) h1 h2 h1' h2' (by omega)
 |.tup ds,.lst ds',v,v',u,u',h,h',r,r',hu=>by obtain⟨a,xs,rfl,h1,h2⟩:=id h;cases r;obtain⟨b,ys,rfl,h1',h2'⟩:=id h';cases r';obtain⟨its,_,p,_⟩:=I.tuple h1;obtain⟨its',_,p',_⟩:=I.list h1';exact RcNeAt.tuple_list p p'.isList (by omega)
 |.lst ds,.non,v,v',u,u',h,h',r,r',hu=>by obtain⟨a,xs,rfl,h1,h2⟩:=id h;cases r;cases(show v'=_ from h');cases r';obtain⟨its,_,p,_⟩:=I.list h1;exact RcNeAt.list_none p.isList (by omega)
 |.lst ds,.bl w2,v,v',u,u',h,h',r,r',hu=>by obtain⟨a,xs,rfl,h1,h2⟩:=id h;cases r;cases(show v'=_ from h');cases r';obtain⟨its,_,p,_⟩:=I.list h1;exact RcNeAt.list_bool _ p.isList (by omega)
 |.lst ds,.int w2,v,v',u,u',h,h',r,r',hu=>by obtain⟨a,xs,rfl,h1,h2⟩:=id h;cases r;cases(show v'=_ from h');obtain⟨t',rfl⟩:=r';obtain⟨its,_,p,_⟩:=I.list h1;exact RcNeAt.list_int _ t' p.isList (by omega)
 |.lst ds,.str w2,v,v',u,u',h,h',r,r',hu=>by obtain⟨a,xs,rfl,h1,h2⟩:=id h;cases r;cases(show v'=_ from h');obtain⟨t',rfl⟩:=r';obtain⟨its,_,p,_⟩:=I.list h1;exact RcNeAt.list_str _ t' p.isList (by omega)
 |.lst ds,.tup ds',v,v',u,u',h,h',r,r',hu=>by obtain⟨a,xs,rfl,h1,h2⟩:=id h;cases r;obtain⟨b,ys,rfl,h1',h2'⟩:=id h';cases r';obtain⟨its,_,p,_⟩:=I.list h1;obtain⟨its',_,p',_⟩:=I.tuple h1';exact RcNeAt.list_tuple p.isList p' (by omega)
 |.lst ds,.lst ds',v,v',u,u',h,h',r,r',hu=>by obtain⟨a,xs,rfl,h1,h2⟩:=id h;cases r;obtain⟨b,ys,rfl,h1',h2'⟩:=id h';cases r';rw[eqD];exact Inv.neLst I A (fun i d d' x y u u' e1 e2 rx ry ru ru'=>Inv.wK I (gf ds) A.in1 d d' x y u u' rx ry ru ru' (lJ e1) (by rw[hgt]at hu;show A.units+1+gf ds+1<cLine;omega)) h1 h2 h1' h2' (by omega)
noncomputable def rEqD(K:aa):R2:=fun x y H Q=>∃d d',Rep K H d x/\Rep K H d' y/\hgt d<=30/\Q (.bl (eqD d d')) H
noncomputable def rNeD(K:aa):R2:=fun x y H Q=>∃d d',Rep K H d x/\Rep K H d' y/\hgt d<=30/\Q (.bl (!eqD d d')) H
theorem op_eqD(hu:X.A.units+40<cLine):OpR X (bV .Eq) (rEqD X.K):=by
 intro pins s σ H x y v u Q I rx ry h;obtain⟨d,d',h1,h2,hd,q⟩:=h;exact I.rcD X.A d d' x y v u h1 h2 rx ry (by omega) _ _ _ _ (oy I q rfl)
theorem op_neD(hu:X.A.units+40<cLine):OpR X (bV .NotEq) (rNeD X.K):=by
 intro pins s σ H x y v u Q I rx ry h;obtain⟨d,d',h1,h2,hd,q⟩:=h;exact I.rcNeD X.A d d' x y v u h1 h2 rx ry (by omega) _ _ _ _ (oy I q rfl)
end
end L2
namespace Q
open PySem PySem.W PyProof.Rows
noncomputable def run{α:Type}(lt:Nat->Nat->Bool):KasT α->α
 |.ret a=>a
 |.ask i j k=>run lt (k (lt i j))
end Q
namespace L2
open PySem PySem.Spec PyProof.Rows
structure Fly(h₀ h:Heap)(H:Hp)(pn:List (Addr×Obj))(a:Addr)(c:Value)(d:Option Addr):Prop where
 ex:∃T oe vs oT ts,h.get? a=some oe/\oe.cls=c/\oe.dict=d/\oe.data=.fields vs/\vs[1]? =some (.ref T)/\T≠a/\h.get? T=some oT/\oT.data=.fields ts/\ts[3]? =some .none/\h₀.get? T=none/\H T=none/\∀p∈pn,p.1≠T
 new:h₀.get? a=none
 un:H a=none
 pins:∀p∈pn,p.1≠a
noncomputable def CXx(P:Program)(w:World):CXT:=fun outer H s E e s'=>
 ∃a c d H',e=.ref a/\s'.os=s.os/\jw s'.gens/\Un (frs outer) [] H H' s.heap s'.heap/\HOk P w H' s'.heap/\Fly s.heap s'.heap H' [] a c d/\E c d H'
section
variable {X:Cx}{pins:List (Addr×Obj)}{σ:St}{H:Hp}{s:Shared}
theorem Inv.mL{h':Heap}{t':Nat}{it:Addr}(I:Inv X pins σ H s)(k:∀b o,b≠it->s.heap.get? b=some o->h'.get? b=some o)(hn:H it=none)(hL:it≠X.env.locals)
  (h1:X.s₀.heap.get? it=none)(h2:∀x c,X.env.cells.lookup x=some c->c≠it)(h3:∀p∈X.pn++pins,p.1≠it):Inv X pins σ H {s with heap:=h',toks:=t'}:=by
 have ne0:∀b o,X.s₀.heap.get? b=some o->b≠it:=fun b o e z=>by rw[z,h1]at e;cases e
 have nit:∀b u,H b=some u->b≠it:=fun b u e z=>by rw[z,hn]at e;cases e
 refine⟨I.ok,I.os,I.bare,⟨fun b o e n hb hx=>k b o (ne0 b o e) (I.base.keep b o e n hb hx),fun b o e n hb hx=>?_,I.base.free,fun b o e hx=>?_,I.base.tups,I.base.frzs,I.base.tbls⟩,?_,fun x c e=>?_,I.free,I.freeC,fun p hp=>?_,fun b u e=>?_,I.len⟩
 ·obtain⟨sl,q⟩:=I.base.slot b o e n hb hx
  exact⟨sl,k _ _ (ne0 b o e) q⟩
 ·obtain⟨o',q⟩:=I.base.there b o e hx
  exact⟨o',k _ _ (ne0 b o e) q⟩
 ·obtain⟨m,⟨o,es,ep,ho,r⟩,hl⟩:=I.loc
  refine⟨m,⟨o,es,ep,k _ _ (bO hL) ho,r⟩,fun i x v e1 e2 e3=>?_⟩;obtain⟨u,ru,l⟩:=hl i x v e1 e2 e3;refine⟨u,ru,?_⟩;rcases l with l|⟨kk,c,e,oc,q,dd⟩
  ·exact .inl l
  ·exact .inr ⟨kk,c,e,oc,k _ _ (h2 x c e) q,dd⟩
 ·obtain⟨v,oc,q,dd⟩:=I.cell x c e
  exact⟨v,oc,k _ _ (h2 x c e) q,dd⟩
 ·obtain⟨e,n,ne,nf,d⟩:=I.pin p hp
  exact⟨k _ _ (h3 p hp) e,n,ne,nf,d⟩
 ·refine(I.hok b u e).mC (fun c v hc q=>k c v ?_ q) (fun _ q=>q) fun _ _ q=>q
  rcases hc with z|z
  ·rw[z];exact nit b u e
  ·exact nit c _ z
theorem Inv.nv(I:Inv X pins σ H s){a:Addr}{o:Obj}{vs:Array Value}(e:s.heap.get? a=some o)(hd:o.data=.fields vs):a≠X.env.locals/\∀x c,X.env.cells.lookup x=some c->c≠a:=by
 refine⟨fun z=>?_,fun x c hc z=>?_⟩
 ·obtain⟨m,⟨o',es,ep,ho',hd',_⟩,_⟩:=I.loc
  rw[<-z,e]at ho';cases ho';rw[hd]at hd';cases hd'
 ·obtain⟨v,o',ho',hd'⟩:=I.cell x c hc
  rw[z,e]at ho';cases ho';rw[hd]at hd';cases hd'
theorem cW.has{P:Program}{w:World}{H:Hp}{h:Heap}{a:Addr}{o:HO}(x:cW P w H h a o):∃ob,h.get? a=some ob:=by
 cases o with
 |lst xs=>obtain⟨_,_,_,_,e⟩:=x;exact⟨_,e⟩
 |tup xs=>obtain⟨_,_,_,_,e,_⟩:=x;exact⟨_,e⟩
 |dK kvs=>obtain⟨_,_,_,_,o,_,_,e,_⟩:=x;exact⟨_,e⟩
 |dT kvs=>obtain⟨_,_,_,_,o,_,_,e,_⟩:=x;exact⟨_,e⟩
 |set S n=>obtain⟨o,_,_,_,e,_⟩:=x;exact⟨_,e⟩
 |ins C dx fs=>obtain⟨_,_,_,e,_⟩:=x;exact⟨_,e⟩
 |own y=>exact x
 |xd fs=>obtain⟨_,⟨_,_,_,e,_⟩,_⟩:=x;exact⟨_,e⟩
 |rng lo hi=>obtain⟨_,_,_,e⟩:=x;exact⟨_,e⟩
 |frz ob u=>obtain⟨e,_⟩:=x;exact⟨_,e⟩
 |tbl ps=>exact⟨_,x⟩
 |met f y=>exact⟨_,x⟩
 |ext φ=>exact x.2.1
section
variable {M:Model}{E:Value->Shared->Prop}{Q:Unit->Shared->Prop}
theorem enter{a:Addr}{oe:Obj}{vs:Array Value}{head:Value}{more:Bool}(I:Inv X pins σ H s)(stk:X.stack=X.env::X.outer)(hf:X.env.frame=some X.env.locals)
  (he:s.heap.get? a=some oe)(hd:oe.data=.fields vs)(hsz:1<vs.size)(h0:X.s₀.heap.get? a=none)(hH:H a=none)(hp:∀p∈X.pn++pins,p.1≠a)
  (h:∀s2,Inv X pins σ H s2->Fly X.s₀.heap s2.heap H (X.pn++pins) a oe.cls oe.dict->Q () s2):
  wpAny M X.A (do let f<-frameOf X.env;let l<-entryPlaceOf X.env.locals more;let b<-ur head f .none (rawInt X.env.locals) .none l;setField (.ref a) 1 b)
   (fun _ s'=>wpAny M X.A (ug (.ref a) none) Q E s') E s:=by
 have hfr:X.A.frames=some (X.env::X.outer):=by rw[<-stk];exact I.ok.frames
 have hl:s.heap.FunFrames X.base (X.env::X.outer):=by rw[<-stk];exact I.stack
 have nofr:∀b∈frs X.stack,H b=none:=I.qD;refine af (wpAny_frameOf_fun hfr hl hf fun h1 hs=>?_);have hs':Heap.SlotsOnly (frs X.stack) s.heap h1:=by rw[stk];exact hs
 have hane:a∉frs X.stack:=fun hm=>by
  rw[stk]at hm;obtain⟨_,o,ho,hnf⟩:=hl.mem hm;rw[he]at ho;cases ho;exact hnf vs hd
 have u1:Un (frs X.stack) [] H H s.heap h1:=
  ⟨fun b o e _ hb _=>(hs'.2.1 b hb).trans e,fun b o e _ _ _=>hs'.2.2 b o e,fun _ _ _ n _=>n,fun b o e _=>let⟨sl,q⟩:=hs'.2.2 b o e;⟨_,q⟩,fun _ _ q=>q,fun _ _ _ q=>q,fun _ ps q=>⟨#[],by rw[q];simp⟩⟩
 have k1:HOk X.prog X.w H h1:=fun b u e=>by
  refine(I.hok b u e).mC (fun c v hc q=>(hs'.2.1 c fun hm=>?_).trans q) (fun _ q=>q) fun _ _ q=>q;have n:=nofr c hm;rcases hc with z|z
  ·rw[z,e]at n;cases n
  ·rw[z]at n;cases n
 have I1:Inv X pins σ H {s with heap:=h1}:=I.call (g':=s.gens) (t':=s.toks) (d':=s.drawn) (ch:=[]) u1 k1 I.bare fun _ z=>nomatch z;have he1:h1.get? a=some oe:=(hs'.2.1 a hane).trans he;refine af (wpAny_entryPlaceOf fun pl hpl=>?_);unfold ur newFields;refine af (dX ?_ (hpl.sizeOk5 _ _ _ _ _));generalize hob:({cls:=.type "traceback",dict:=none,data:=.fields ([head,.ref X.env.locals,.none,rawInt X.env.locals,.none]++(if pl.isEmpty then aV 6 cL else pl)).toArray}:Obj)=ob;have hodata:ob.data=.fields ([head,.ref X.env.locals,.none,rawInt X.env.locals,.none]++(if pl.isEmpty then aV 6 cL else pl)).toArray:=by rw[<-hob]
 have hofree:ob.isFreed=false:=by rw[<-hob];rfl
 have I2:Inv X pins σ H {s with heap:=h1.push ob}:=I1.kept (t':=s.toks) fun b o e=>ai _ e;have he2:(h1.push ob).get? a=some oe:=ai _ he1;have hT2:(h1.push ob).get? h1.objs.size=some ob:=aO _ hofree;have hTa:h1.objs.size≠a:=jA (ay he1);have hd3:=eS hd (·.setIfInBounds 1 (bg h1.objs.size));refine wpAny_setField he2 hd hsz ?_;obtain⟨ra1,ra2⟩:=I.nv he hd;have I3:Inv X pins σ H {s with heap:=(h1.push ob).update a (cZ (·.setIfInBounds 1 (.ref h1.objs.size)))}:=
  I2.mL (t':=s.toks) (fun b o hb e=>by rw[aS _ _ (bO hb)];exact e) hH ra1 h0 ra2 hp
 have he3:=cQ (cZ (·.setIfInBounds 1 (bg h1.objs.size))) he2 (kd hd3);have hT3:((h1.push ob).update a (cZ (·.setIfInBounds 1 (bg h1.objs.size)))).get? h1.objs.size=some ob:=by
  rw[aS _ _ (bO hTa)];exact hT2
 have hszT:3<([head,.ref X.env.locals,.none,rawInt X.env.locals,.none]++(if pl.isEmpty then aV 6 cL else pl)).toArray.size:=by
  simp only[ax,aD,aY,List.length_nil];omega
 have hv1:(vs.setIfInBounds 1 (bg h1.objs.size))[1]? =some (.ref h1.objs.size):=by simp[hsz]
 refine wpAny_setFlight_none he3 hd3 hv1 hT3 hodata hszT ?_;have hTle:s.heap.objs.size<=h1.objs.size:=yq hs.1.symm;have hT0:X.s₀.heap.get? h1.objs.size=none:=ki (au I.sz hTle);have hTH:H h1.objs.size=none:=I.hok.fresh hTle;obtain⟨rt1,rt2⟩:=I3.nv hT3 hodata;have hpT:∀p∈X.pn++pins,p.1≠h1.objs.size:=fun p hq z=>by
  have q:=ay (I.pin p hq).1;exact absurd (aQ (z▸q) hTle) (da _)
 have I4:=I3.mL (t':=s.toks) (h':=((h1.push ob).update a (cZ (·.setIfInBounds 1 (.ref h1.objs.size)))).update h1.objs.size (cZ (·.setIfInBounds 3 .none)))
  (fun b o hb e=>by rw[aS _ _ (bO hb)];exact e) hTH rt1 hT0 rt2 hpT
 refine h _ I4 ⟨⟨h1.objs.size,_,_,_,_,?_,Obj.cls_mapFields _ _,?_,hd3,hv1,hTa,cQ _ hT3 (kd (eS hodata _)),eS hodata _,?_,hT0,hTH,hpT⟩,h0,hH,hp⟩
 ·show(Heap.update _ _ _).get? a=_
  rw[aS _ _ hTa];exact he3
 ·obtain⟨c',d',dt',sl'⟩:=oe
  cases dt'<;>rfl
 ·rw[jP hszT]
theorem td{a:Addr}{c:Value}{args:List Value}{h':Heap}(I:Inv X pins σ H s)(stk:X.stack=X.env::X.outer)(hf:X.env.frame=some X.env.locals)(hx:X.ex=[])(hm:kj s.heap h' a c args)
  (h:∀s2,Inv X pins σ H s2->Fly X.s₀.heap s2.heap H (X.pn++pins) a c none->Q () s2):
  wpAny M X.A (iB (.ref a) X.env) (fun _ s'=>wpAny M X.A (ug (.ref a) none) Q E s') E {s with heap:=h'}:=by
 obtain⟨t,ht,_,_⟩:=hm.there;have I1:Inv X pins σ H {s with heap:=h'}:=I.kept (t':=s.toks) hm.keeps;have hH:H a=none:=by
  cases q:H a with
  |none=>rfl
  |some o=>
   obtain⟨ob,e⟩:=(I.hok a o q).has;rw[hm.new]at e;cases e
 unfold iB;simp only[hf];refine af (fA (x:=.none) ht rfl (by rfl) ?_);rw[if_neg (show ¬(cL != cL)=true by simp)];have h0:X.s₀.heap.get? a=none:=by
  cases q:X.s₀.heap.get? a with
  |none=>rfl
  |some o=>
   obtain⟨o',e⟩:=I.base.there a o q (by rw[hx];simp);rw[hm.new]at e;cases e
 exact enter I1 stk hf ht rfl (by simp) h0 hH (fun p hp z=>by have :=(I.pin p hp).1;rw[z,hm.new]at this;cases this) h
theorem tj{a:Addr}{c:Value}{d:Option Addr}{H':Hp}{s':Shared}(I:Inv X pins σ H s)(stk:X.stack=X.env::X.outer)(hf:X.env.frame=some X.env.locals)(hx:X.ex=[])(ho:s'.os=s.os)(hg:jw s'.gens)(u:Un (frs X.stack) [] H H' s.heap s'.heap)(ok:HOk X.prog X.w H' s'.heap)
  (F:Fly s.heap s'.heap H' [] a c d)(h:∀s2,Inv X pins σ H' s2->Fly X.s₀.heap s2.heap H' (X.pn++pins) a c d->Q () s2):
  wpAny M X.A (iB (.ref a) X.env) (fun _ s'=>wpAny M X.A (ug (.ref a) none) Q E s') E s':=by
 obtain⟨⟨T,oe,vs,oT,ts,he,rfl,rfl,hd,h1,hTa,hT,hdT,h3,hnT,hHT,_⟩,hna,hHa,_⟩:=F;have I1:Inv X pins σ H' s':=I.call' (ch:=[]) ho u ok hg fun _ z=>nomatch z;have back:∀b,s.heap.get? b=none->X.s₀.heap.get? b=none:=fun b n=>by
  cases q:X.s₀.heap.get? b with
  |none=>rfl
  |some o=>
   obtain⟨o',e⟩:=I.base.there b o q (by rw[hx];simp);rw[n]at e;cases e
 have np:∀b,s.heap.get? b=none->∀p∈X.pn++pins,p.1≠b:=fun b n p hp z=>by have :=(I.pin p hp).1;rw[z,n]at this;cases this
 unfold iB;simp only[hf];refine af (fA he hd h1 ?_);rw[if_pos (show(bg T != cL)=true by simp)];refine af (fA hT hdT h3 ?_);rw[if_neg (show ¬(cL==rawInt X.env.locals)=true by simp[rawInt])];refine af (wpAny_setField hT hdT (cb.mp h3).1 ?_);obtain⟨rt1,rt2⟩:=I1.nv hT hdT;have I2:=I1.mL (t':=s'.toks) (h':=s'.heap.update T (cZ (·.setIfInBounds 3 .none))) (fun b o hb e=>by rw[aS _ _ (bO hb)];exact e) hHT rt1 (back T hnT) rt2 (np T hnT);have he2:(s'.heap.update T (cZ (·.setIfInBounds 3 .none))).get? a=some oe:=by rw[aS _ _ hTa];exact he
 exact enter I2 stk hf he2 hd (cb.mp h1).1 (back a hna) hHa (np a hna) h
end
end
end L2
namespace L2
open PySem PySem.Spec PySem.W PyProof.Rows
noncomputable def gE(K:aa)(C:Addr):Bool:=
 findIn K (.ref C) "__getattribute__"==some (some (.builtin "BaseException.__getattribute__"))&&findIn K (.ref C) "__getattr__"==some none&&
 findIn K (.ref C) "__class__"==some (some (.builtin "object.__class__"))&&specialIn K (.builtin "object.__class__") "__get__"==some (some (.builtin "getset_descriptor.__get__"))&&
 takesIn K (.builtin "object.__class__")==some true&&mroIn K C (.type "object")==some true&&mroIn K C (.type "BaseException")==some true&&(clsIn K C).isSome
structure oZ(K:aa)(C:Addr):Prop where
 ga:findIn K (.ref C) "__getattribute__"=some (some (.builtin "BaseException.__getattribute__"))
 hook:findIn K (.ref C) "__getattr__"=some none
 cl:findIn K (.ref C) "__class__"=some (some (.builtin "object.__class__"))
 get:specialIn K (.builtin "object.__class__") "__get__"=some (some (.builtin "getset_descriptor.__get__"))
 tk:takesIn K (.builtin "object.__class__")=some true
 obj:mroIn K C (.type "object")=some true
 bex:mroIn K C (.type "BaseException")=some true
 isc:(clsIn K C).isSome=true
theorem oE{K:aa}{C:Addr}(h:gE K C=true):oZ K C:=by
 unfold gE at h;simp only[ae,beq_iff_eq]at h;obtain⟨⟨⟨⟨⟨⟨⟨a,b⟩,c⟩,d⟩,e⟩,f⟩,g⟩,i⟩:=h;exact⟨a,b,c,d,e,f,g,i⟩
theorem uQ:splitId "BaseException.__getattribute__"=some ("BaseException","__getattribute__"):=by decide+kernel
theorem xQ:builtinKind "BaseException.__getattribute__"=some .slot:=by decide+kernel
theorem ga_ne:(eu "BaseException.__getattribute__"==eu "object.__getattribute__")=false:=by decide+kernel
section
variable {prog:Program}{w:World}{A:Around}{E:Value->Shared->Prop}{s:Shared}{K:aa}{a C:Addr}{o:Obj}{od:Option Obj}
theorem oU{M:Model}{nameV:Value}{Q:Unit->Shared->Prop}{h:Heap}{g:Array se}{d:Drawn}{t:Nat}{os:OsState}(kin:K.In h)(J:InstAt h a o C od)(F:oZ K C)(hq:Q () ⟨h,g,d,t,os⟩):
  wpAny M A (uj "BaseException.__getattribute__" ⟨[.ref a,nameV],[]⟩) Q E ⟨h,g,d,t,os⟩:=by
 have L0:=J.type (M:=M);have L4:=looks_mroIn (M:=M) kin F.bex;have ha:=PySem.F.args_bexc_ga (.ref a) nameV;simp only[uj,xQ,uQ];unfold isInstance;repeat(first |lk|wp_step)
 exact hq
theorem yg{tk:Tok}{R:Result->Shared->Prop}(kin:K.In s.heap)(J:InstAt s.heap a o C od)(F:oZ K C)(h:R (.ok (.ret (.ref C))) s):
  ic (model prog w) A (.call (.builtin "BaseException.__getattribute__") ⟨[.ref a,.str "__class__" tk],[]⟩) R s:=by
 have hf:mW K C od "__class__"=some (.bind (.builtin "getset_descriptor.__get__") (.builtin "object.__class__")):=by
  obtain⟨cd,hc⟩:=bB.mp F.isc;unfold mW;rw[hc,dc,F.cl,dc];simp[F.get,F.tk]
 obtain⟨hh,g,d,t,os⟩:=s;have L0:=J.type (M:=model prog w);have L3:=looks_find (M:=model prog w) kin J hf;refine eh dv.ga.plain uz (oU kin J F ?_);unfold Builtin.«object.__getattribute__»;repeat(first |with_reducible refine fv ?_ |lk|wp_step)
 refine class_get (s:=⟨hh,g,d,t,os⟩) kin J F.obj ?_;repeat(first |lk|wp_step)
 exact h
theorem x3{Q:Option Value->Shared->Prop}(kin:K.In s.heap)(J:InstAt s.heap a o C od)(F:oZ K C)(h:Q (some (.ref C)) {s with toks:=s.toks+1}):
  wpAny (model prog w) A (getAttr? (.ref a) "__class__") Q E s:=by
 obtain⟨hh,g,d,t,os⟩:=s;have L0:=J.type (M:=model prog w);have L1:=kX (M:=model prog w) kin F.ga;have L2:=kX (M:=model prog w) kin F.hook;have hf:mW K C od "__class__"=some (.bind (.builtin "getset_descriptor.__get__") (.builtin "object.__class__")):=by
  obtain⟨cd,hc⟩:=bB.mp F.isc;unfold mW;rw[hc,dc,F.cl,dc];simp[F.get,F.tk]
 have L3:=looks_find (M:=model prog w) kin J hf;have L4:=looks_mroIn (M:=model prog w) kin F.bex;unfold getAttr? getAttrBy? getAttrBy;refine af (wpAny_mkText (af (o9 (bN (af (L0.at (af (L1.at ?_))))))));show wpAny _ _ (if(uh (.ref C)&&(eu "BaseException.__getattribute__"==eu "object.__getattribute__"))=true then _ else _) _ _ _;rw[ga_ne,dQ,if_neg aP];unfold getAttrByItsOwn hookBefore;rw[if_pos (show uh (.ref C)=true from rfl)];refine af (L2.at ?_);unfold callGetattribute boundAndCalled;rw[bT,if_neg aP];refine af (o9 (bN (af ?_)));rw[dv.ga.bind (.ref a)];refine aj (fv (yg (s:=⟨hh,g,d,t+1,os⟩) kin J F ?_));exact handed_on rfl (aj h)
end
abbrev bmV:List Value:=[.type "ValueError",.type "Exception",.type "BaseException",.type "object"]
noncomputable def iY(a:Addr)(c:Value)(d:Option Addr):HO:=.ext fun h=>∃o,h.get? a=some o/\o.cls=c/\o.dict=d/\notCls o=true
noncomputable abbrev excO(a:Addr)(c:Value):HO:=iY a c none
section
variable {K:aa}{a C:Addr}
theorem Ak(F:oZ K C):KitX K (.ref a) (.ref C) (fun h=>∃o od,InstAt h a o C od) where
 ty:=fun M h _ p=>by obtain⟨o,od,J⟩:=p;exact J.type
 it:=fun M h kin _=>by
  obtain⟨cd,hc⟩:=bB.mp F.isc;unfold clsIn at hc;split at hc
  ·rename_i ho
   intro A Q E s k q;unfold isType loadHead;exact af (ym (k _ _ (kin _ _ ho)) (aj q))
  ·cases hc
 ne:=fun h tp dd its n sl kin htp=>by
  obtain⟨cd,hc⟩:=bB.mp F.isc;refine Bool.eq_false_iff.mpr fun q=>?_;obtain rfl:C=tp:=bg.inj (beq_iff_eq.mp q);unfold clsIn at hc;split at hc
  ·rename_i ho
   have z:=(kin _ _ ho).symm.trans htp;cases z
  ·cases hc
 ca:=fun kin p k=>by obtain⟨o,od,J⟩:=p;exact x3 kin J F k
theorem vq{P:Program}{w:World}{H:Hp}{h:Heap}{d:Option Addr}(ok:HOk P w H h)(e:H a=some (iY a (.ref C) d))(hd:∀dd,d=some dd->∃φ,H dd=some (.ext φ)):∃o od,InstAt h a o C od:=by
 obtain⟨⟨o,e1,e2,e3,e4⟩,_⟩:=ok a _ e;cases d with
 |none=>exact⟨o,none,e1,e2,e4,by rw[e3];exact True.intro⟩
 |some dd=>
  obtain⟨u,hu⟩:=hd dd rfl;obtain⟨od,z⟩:=(ok dd _ hu).2.1;exact⟨o,some od,e1,e2,e4,by rw[e3];exact z⟩
end
section
variable {X:Cx}
theorem exc_obj{K:aa}{h:Heap}{C:Addr}{bmB:List Value}{newId:String}(kin:K.In h)(q:excIn K C bmB newId=true):
  ∃nm qn N bs bm hd sn sub ab col dd k0 k1 k2 k3 k5 mN,h.get? C=some (fC nm qn C N bs bm hd sn sub ab col dd k0 k1 k2 k3 k5 newId)/\h.Ns N mN/\mN "__init__"=none/\OwnTail h bmB bm:=by
 unfold excIn at q;split at q
 case h_2=>cases q
 rename_i od cd sl ho;split at q
 case h_2=>cases q
 rename_i C' bm j0 j1 j2 j3 n j5 hm hs;rw[ae,ae,ae,ae,ae,beq_iff_eq,beq_iff_eq,beq_iff_eq]at q;obtain⟨⟨⟨⟨⟨e1,e2⟩,e3⟩,e4⟩,e5⟩,e6⟩:=q;subst e1;subst e2;obtain⟨c1,c2,c3,c4,c5,c6,c7,c8,c9,c10,c11⟩:=cd;have e7:c3=.ref C'::bm:=hm;have e8:c11=false:=by simpa using e3
 have e9:sl= #[j0,j1,j2,j3,some (.builtin n),j5]:=by
  apply Array.ext'
  exact hs
 subst e7;subst e8;subst e9;exact⟨_,_,_,_,_,_,_,_,_,_,_,_,_,_,_,_,_,kin _ _ ho,.of_isNs (isNs_of_in kin e5),nsMap_none_of_in kin e5 e6,tail_of_in kin e4⟩
theorem zF{x:Str}{e:Expr}{es:List Expr}{t:TA}{C:Addr}{np cpos pos:Pos}{E:St->XK}(hg:Gl X x)(hm:X.mg x=some (.ref C))(hk:keepIn X.K (.ref C)=true)(hq:excIn X.K C bmV "ValueError.__new__"=true)(ha:PA X (e::es) t)(hc:X.calm=true)(hdb:(x==("__debug__":Str))=false)
  (hst:aB (e::es) X.env=(false,eval e X.env)::aB es X.env)(hpl:(backTo cpos (aB es X.env)).any (·.1)=false)
  (made:∀pins σ H s a c args h',Inv X pins σ H s->kj s.heap h' a c args->E σ c none H->X.xe (.ref a) {s with heap:=h'}):
  PS X (.Raise (some (.Call (.Name x np) (e::es) [] cpos)) none pos) (fun D σ H=>t σ H fun vs H1=>vs.length<=sizeLine/\E σ (.ref C) none H1):=by
 intro pins s σ H D I h;obtain⟨nm,qn,N,bs,bm,hd,sn,sub,ab,col,dd,k0,k1,k2,k3,k5,mN,hC,hN,hni,T⟩:=exc_obj (bmB:=bmV) I.mod.kin hq;have hbase:bm.contains (.type "BaseException")=true:=T.hasType (by decide+kernel);rw[arm_exec_Raise];show wpAny _ _ (do rV pos;raiseStmt X.env (some (do let v<-eval (.Call (.Name x np) (e::es) [] cpos) X.env;rV pos;pure v)) none) _ _ s;refine af (dN (wpAny_raiseStmt_made_sub (C:=C) (nm:=nm) (q:=qn) (N:=N) (bs:=bs) (bm:=bm) (hdct:=hd) (sn:=sn) (sub:=sub) (ab:=ab) (col:=col) (dd:=dd) (k0:=k0) (k1:=k1) (k2:=k2) (k3:=k3) (k5:=k5) (newId:="ValueError.__new__") hbase (I.ok.hd hc) (af (bM (Q:=fun v s1=>∃a u,v=.ref a/\s1.heap.get? C=some (fC nm qn C N bs bm hd sn sub ab col dd k0 k1 k2 k3 k5 "ValueError.__new__")/\s1.heap.get? a=some {cls:=.ref C,data:=.fields #[.ref u,.none,.none,.none,.bool false,.none]}/\X.xe (.ref a) s1) (E:=X.xe) ?_ (fun v s1 z=>af (dN (aj z))) fun _ _ z=>z))));refine cS (gD I hg hm ?_ hdb);refine gB (h₀:=X.base) I.ok.mod.kin hk (thn (ha cpos pins s σ H _ I h) fun us s1 ⟨vs,H1,I1,r,hlen,q⟩=>⟨I1.kIn,?_⟩) hst hpl;have hC1:=I1.bk _ _ hC;obtain⟨hh,gg,dr,tk,os⟩:=s1;refine wpAny_call_exc_subT (hrest:=by rw[qz,<-r.length];exact hlen) gC (T.keeps I1.bk) hC1 (hN.keeps I1.bk) hni fun h' a hmk=>?_;obtain⟨u,hu,_,_⟩:=hmk.there;exact⟨a,u,rfl,hmk.keeps _ _ hC1,hu,made pins σ H1 _ a _ _ h' I1 hmk q⟩
end
noncomputable def Cx.re(X:Cx)(A:Around)(calm:Bool)(pn:List (Addr×Obj))(xe:Value->Shared->Prop):Cx:={X with A:=A,calm:=calm,pn:=pn,xe:=xe}
section
variable {X:Cx}{pins:List (Addr×Obj)}{σ:St}{H:Hp}{s:Shared}
theorem Inv.re{A:Around}{calm:Bool}{pn pins':List (Addr×Obj)}{xe:Value->Shared->Prop}(I:Inv X pins σ H s)(hA:A.frames=X.A.frames)(hc:calm=true->A.handled=none)(hp:∀p∈pn++pins',p∈X.pn++pins):
  Inv (X.re A calm pn xe) pins' σ H s:=
 ⟨⟨I.ok.mod,I.ok.kind,I.ok.glob,I.ok.blt,I.ok.above,I.ok.inj,I.ok.has,I.ok.cab,hc,hA.trans I.ok.frames,I.ok.stk,I.ok.exf,I.ok.bs,I.ok.bsz,I.ok.noex,I.ok.exfs,I.ok.ou,I.ok.frf⟩,
  I.os,I.bare,I.base,I.loc,I.cell,I.free,I.freeC,fun p q=>I.pin p (hp p q),I.hok,I.len⟩
theorem Inv.yI{A:Around}{calm:Bool}{pn pins':List (Addr×Obj)}{xe:Value->Shared->Prop}(ok:X.Ok)(I:Inv (X.re A calm pn xe) pins' σ H s)(hp:∀p∈X.pn++pins,p∈pn++pins'):Inv X pins σ H s:=
 ⟨ok,I.os,I.bare,I.base,I.loc,I.cell,I.free,I.freeC,fun p q=>I.pin p (hp p q),I.hok,I.len⟩
theorem jn{M:Model}{A:Around}{E:Value->Shared->Prop}{i:Nat}{n:Str}{pos:Pos}{Q:Unit->Shared->Prop}(I:Inv X pins σ H s)(hN:X.N.Nodup)(hi:X.N[i]? =some n)(hk:X.env.scope.names.lookup n=some .local)
  (h:∀s',Inv X pins (σ.set i none) H s'->Q () s'):wpAny M A (do bindName X.env n .none;unbindBehindTheSuite X.env n pos) Q E s:=by
 obtain⟨m,hn,hl⟩:=id I.loc;have hcls:(X.env.scope.kind== .class||(X.env.scope.kind== .module&&X.env.locals != X.env.globals))=false:=by rw[I.ok.kind];rfl
 obtain⟨oL,_,_,hoL,_⟩:=id hn;refine wpAny_nameGoes_keeps hk hn hcls fun h' v hn' hs=>h _ ?_;have up:∀b o,X.s₀.heap.get? b=some o->b≠X.env.locals:=fun b o e=>aW (aQ (ay e) I.ok.above);refine⟨I.ok,I.os,I.bare,⟨fun b o e n hb hx=>(hs.2 b (up b o e)).trans (I.base.keep b o e n hb hx),fun b o e n hb hx=>?_,I.base.free,fun b o e hx=>?_,I.base.tups,I.base.frzs,I.base.tbls⟩,⟨_,hn',fun j y v' e1 e2 e3=>?_⟩,fun y c e=>?_,I.free,I.freeC,fun p hp=>?_,fun b ob e=>?_,by simpa using I.len⟩
 ·obtain⟨sl,e1⟩:=I.base.slot b o e n hb hx
  exact⟨sl,(hs.2 b (up b o e)).trans e1⟩
 ·obtain⟨o',e1⟩:=I.base.there b o e hx
  exact⟨o',(hs.2 b (up b o e)).trans e1⟩
 ·by_cases hj:j=i
  ·subst hj
   rw[List.getElem?_set]at e2;split at e2
   ·split at e2<;>cases e2
   ·exact absurd rfl (by assumption)
  ·rw[kh (bO hj)]at e2
   obtain⟨u',r',q⟩:=hl j y v' e1 e2 e3;refine⟨u',r',?_⟩;rcases q with⟨k,e⟩ |⟨k,c,e,z⟩
   ·refine .inl ⟨k,?_⟩
    have :y≠n:=fun e=>hj (nL hN e1 (e▸hi));simp[this,e]
   ·exact .inr ⟨k,c,e,z.sameBut hs (I.cne y c e)⟩
 ·obtain⟨w',z⟩:=I.cell y c e
  exact⟨w',z.sameBut hs (I.cne y c e)⟩
 ·obtain⟨e,n,ne,nf,d⟩:=I.pin p hp
  exact⟨(hs.2 p.1 ne).trans e,n,ne,nf,d⟩
 ·refine(I.hok b ob e).mC (fun c w' hc q=>(hs.2 c ?_).trans q) (fun _ q=>q) fun _ _ q=>q
  have hf:=I.free;rintro rfl;rcases hc with z|z
  ·rw[<-z,hf]at e;cases e
  ·rw[hf]at z;cases z
theorem Inv.take{a:Addr}{c:Value}{d:Option Addr}(I:Inv X pins σ H s)(hx:X.ex=[])(F:Fly X.s₀.heap s.heap H (X.pn++pins) a c d):Inv X pins σ (upd H a (iY a c d)) s:=by
 obtain⟨⟨T,oe,vs,oT,ts,he,ec,ed,hd,_⟩,hna,hHa,hp⟩:=F;obtain⟨ra1,ra2⟩:=I.nv he hd;refine⟨I.ok,I.os,I.bare,⟨I.base.keep,I.base.slot,fun b o e n hb=>?_,I.base.there,fun b xs e=>?_,fun b o u e=>?_,fun b ps e=>?_⟩,I.loc,I.cell,?_,fun x c' e=>?_,fun p q=>?_,fun b u e=>?_,I.len⟩
 ·rw[aL (fun z=>by rw[z,hna]at e;cases e)]
  exact I.base.free b o e n hb
 ·have q:=I.base.tups b xs e
  rw[aL (ba q hHa)];exact q
 ·have q:=I.base.frzs b o u e
  rw[aL (ba q hHa)];exact q
 ·obtain⟨more,q⟩:=I.base.tbls b ps e
  exact⟨more,by rw[aL (ba q hHa)];exact q⟩
 ·rw[aL (bO ra1)]
  exact I.free
 ·rw[aL (ra2 x c' e)]
  exact I.freeC x c' e
 ·obtain⟨e,n,ne,nf,d⟩:=I.pin p q
  exact⟨e,by rw[aL (hp p q)];exact n,ne,nf,d⟩
 ·by_cases hb:b=a
  ·subst hb
   rw[ak]at e;cases e;refine⟨⟨oe,he,ec,ed,by unfold notCls;rw[hd]⟩,⟨oe,he⟩,fun h1 h2 p k=>?_⟩;obtain⟨o,e1,r⟩:=p;exact⟨o,k o e1,r⟩
  ·rw[aL hb]at e
   exact(I.hok b u e).mC (fun _ _ _ q=>q) (fun c' q=>by rw[aL (ba q hHa)];exact q) fun c' xs q=>by rw[aL (ba q hHa)];exact q
end
noncomputable def Ends.drop(D:Ends)(i:Nat):Ends:={nx:=fun σ H=>D.nx (σ.set i none) H,rt:=D.rt,bk:=fun σ H=>D.bk (σ.set i none) H,ct:=fun σ H=>D.ct (σ.set i none) H}
noncomputable def lM(K:aa)(C:Addr)(i:Nat)(ts:TS)(D:Ends):St->XK:=fun σ c d H=>
 c=c/\exmOne K c (.ref C)=some true/\∀a,H a=none->ts (D.drop i) (σ.set i (some (.ref a))) (upd H a (iY a c d))
noncomputable def f9(X:Cx)(pins:List (Addr×Obj))(D:Ends)(hs:List ExceptHandler):Value->Shared->Prop:=fun e s1=>
 wpAny (model X.prog X.w) X.A (iB e X.env) (fun _ s2=>wpAny (model X.prog X.w) X.A (ug e none) (fun _ s3=>wpAny (model X.prog X.w) X.A (handleBy e X.env hs) (SP X pins D) X.xe s3) X.xe s2) X.xe s1
section
variable {X:Cx}{pins:List (Addr×Obj)}{σ:St}{H:Hp}{s:Shared}{x n:Str}{C:Addr}{i:Nat}{b₀:Stmt}{suite:List Stmt}{np hpos pos:Pos}{ts:TS}{D:Ends}
structure uc(X:Cx)(x n:Str)(C:Addr)(i:Nat)(suite:List Stmt)(ts:TS):Prop where
 nd:X.N.Nodup
 at_:X.N[i]? =some n
 loc:X.env.scope.names.lookup n=some .local
 gl:Gl X x
 mg:X.mg x=some (.ref C)
 db:(x==("__debug__":Str))=false
 stk:X.stack=X.env::X.outer
 fr:X.env.frame=some X.env.locals
 ex:X.ex=[]
 su:∀(pins:List (Addr×Obj))(a:Addr),PSs (X.re (X.A.mark (some (.ref a))) false (X.pn++pins) (fun _ _=>False)) suite ts
theorem lN{a:Addr}{c:Value}{d:Option Addr}(O:uc X x n C i (b₀::suite) ts)(I:Inv X pins σ H s)(F:Fly X.s₀.heap s.heap H (X.pn++pins) a c d)(h:lM X.K C i ts D σ c d H):
  wpAny (model X.prog X.w) X.A (handleBy (.ref a) X.env [.ExceptHandler (some (.Name x np)) (some n) (b₀::suite) hpos]) (SP X pins D) X.xe s:=by
 obtain⟨_,hm,hk⟩:=h;obtain⟨⟨T,oe,vs,oT,tv,he,ec,ed,hd,h1,hTa,hT,hdT,h3,hnT,hHT,hpT⟩,hna,hHa,hp⟩:=F;refine wpAny_handleBy_cons (codeAny_handlers_test ?_) (by intro q;cases q);have I0:Inv (X.re (X.A.mark (some (.ref a))) false (X.pn++pins) (fun _ _=>False)) [] σ H s:=I.re rfl (fun z=>nomatch z) fun p q=>by simpa using q
 refine gD I0 O.gl O.mg ?_ O.db;have LT:Looks (model X.prog X.w) s.heap (typeOf (.ref a)) c:=ec▸(Looks.ld he).andThen .now;refine(exm_one I.kIn LT hm).here (codeAny_handlers_suite_as ?_);refine wpAny_setFlight_none he hd h1 hT hdT (cb.mp h3).1 ?_;obtain⟨rt1,rt2⟩:=I.nv hT hdT;have I1:=I.mL (t':=s.toks) (h':=s.heap.update T (cZ (·.setIfInBounds 3 .none))) (fun b o hb e=>by rw[aS _ _ (bO hb)];exact e) hHT rt1 hnT rt2 hpT;have F1:Fly X.s₀.heap (s.heap.update T (cZ (·.setIfInBounds 3 .none))) H (X.pn++pins) a c d:=by
  refine⟨⟨T,oe,vs,_,_,by rw[aS _ _ hTa];exact he,ec,ed,hd,h1,hTa,cQ _ hT (kd (eS hdT _)),eS hdT _,?_,hnT,hHT,hpT⟩,hna,hHa,hp⟩;rw[jP (cb.mp h3).1]
 have I2:=I1.take O.ex F1;refine m9 I2 O.nd O.at_ (.inl O.loc) (v:=.ref a) rfl (fun s3 I3=>?_) (.inr O.loc);have I4:Inv (X.re (X.A.mark (some (.ref a))) false (X.pn++pins) (fun _ _=>False)) [] (σ.set i (some (.ref a))) (upd H a (iY a c d)) s3:=I3.re rfl (fun z=>nomatch z) fun p q=>by simpa using q
 refine bM (O.su pins a [] s3 _ _ (D.drop i) I4 (hk a hHa)) (fun f s4 q=>?_) fun _ _ z=>z.elim;have back:∀{σ':St}{H':Hp},Inv (X.re (X.A.mark (some (.ref a))) false (X.pn++pins) (fun _ _=>False)) [] σ' H' s4->Inv X pins σ' H' s4:=fun{σ' H'} J=>J.yI I.ok fun p q=>by simpa using q
 cases f with
 |next =>
  obtain⟨σ',H',J,q⟩:=q;exact jn (back J) O.nd O.at_ O.loc fun s5 J5=>⟨_,_,J5,q⟩
 |brk=>
  obtain⟨σ',H',J,q⟩:=q;exact jn (back J) O.nd O.at_ O.loc fun s5 J5=>⟨_,_,J5,q⟩
 |cont=>
  obtain⟨σ',H',J,q⟩:=q;exact jn (back J) O.nd O.at_ O.loc fun s5 J5=>⟨_,_,J5,q⟩
 |ret u=>
  obtain⟨v,σ',H',J,rv,q⟩:=q;exact jn (back J) O.nd O.at_ O.loc fun s5 J5=>⟨v,_,_,J5,rv,q⟩
theorem yL(O:uc X x n C i (b₀::suite) ts){pins':List (Addr×Obj)}{e:Value}{s':Shared}(ok:X.Ok)(hc:X.calm=true)
  (I:Inv (X.re X.A X.calm (X.pn++pins) (f9 X pins D [.ExceptHandler (some (.Name x np)) (some n) (b₀::suite) hpos])) pins' σ H s)(h:CXx X.prog X.w X.stack H s (lM X.K C i ts D σ) e s'):
  f9 X pins D [.ExceptHandler (some (.Name x np)) (some n) (b₀::suite) hpos] e s':=by
 obtain⟨a,c,d,H',rfl,ho,hg,u,hok,F,q⟩:=h;have J:Inv X pins σ H s:=I.yI ok fun p z=>bG _ z;exact tj J O.stk O.fr O.ex ho hg u hok F fun s2 I2 F2=>lN O I2 F2 q
theorem yM(O:uc X x n C i (b₀::suite) ts){pins':List (Addr×Obj)}{a:Addr}{c:Value}{args:List Value}{h':Heap}(ok:X.Ok)
  (I:Inv (X.re X.A X.calm (X.pn++pins) (f9 X pins D [.ExceptHandler (some (.Name x np)) (some n) (b₀::suite) hpos])) pins' σ H s)(hm:kj s.heap h' a c args)(h:lM X.K C i ts D σ c none H):
  f9 X pins D [.ExceptHandler (some (.Name x np)) (some n) (b₀::suite) hpos] (.ref a) {s with heap:=h'}:=by
 have J:Inv X pins σ H s:=I.yI ok fun p z=>bG _ z;exact td J O.stk O.fr O.ex hm fun s2 I2 F2=>lN O I2 F2 h
theorem ps_try{body:List Stmt}{tb:Ends->TS}(hb:∀pins D,X.Ok->PSs (X.re X.A X.calm (X.pn++pins) (f9 X pins D [.ExceptHandler (some (.Name x np)) (some n) (b₀::suite) hpos])) body (tb D)):
  PS X (.Try body [.ExceptHandler (some (.Name x np)) (some n) (b₀::suite) hpos] [] [] pos) (fun D σ H=>tb D D σ H):=by
 intro pins s σ H D I h;have I0:Inv (X.re X.A X.calm (X.pn++pins) (f9 X pins D [.ExceptHandler (some (.Name x np)) (some n) (b₀::suite) hpos])) [] σ H s:=I.re rfl I.ok.hd fun p q=>by simpa using q
 refine wpAny_Try_except (bM (hb pins D I.ok [] s σ H D I0 h) (fun f s1 q=>?_) fun e s1 q=>q);have back:∀{σ':St}{H':Hp},Inv (X.re X.A X.calm (X.pn++pins) (f9 X pins D [.ExceptHandler (some (.Name x np)) (some n) (b₀::suite) hpos])) [] σ' H' s1->Inv X pins σ' H' s1:=fun{σ' H'} J=>J.yI I.ok fun p q=>by simpa using q
 cases f with
 |next =>
  obtain⟨σ',H',J,q⟩:=q;exact qR pins s1 σ' H' D (back J) q
 |brk=>
  obtain⟨σ',H',J,q⟩:=q;exact⟨_,_,back J,q⟩
 |cont=>
  obtain⟨σ',H',J,q⟩:=q;exact⟨_,_,back J,q⟩
 |ret u=>
  obtain⟨v,σ',H',J,rv,q⟩:=q;exact⟨v,_,_,back J,rv,q⟩
end
noncomputable abbrev XS:=St->XK
noncomputable abbrev N0:XS:=fun _=>E0
noncomputable def oX(CX:CXT)(X:Cx)(E:XS):Prop:=∀(pins:List (Addr×Obj))(σ:St)(H:Hp)(s:Shared)(e:Value)(s':Shared),Inv X pins σ H s->CX X.stack H s (E σ) e s'->X.xe e s'
noncomputable def MadeS(X:Cx)(E:XS):Prop:=∀(pins:List (Addr×Obj))(σ:St)(H:Hp)(s:Shared)(a:Addr)(c:Value)(args:List Value)(h':Heap),Inv X pins σ H s->kj s.heap h' a c args->E σ c none H->X.xe (.ref a) {s with heap:=h'}
section
variable {X:Cx}{CX:CXT}{k:Nat}{f:Addr}{fd:dh}{ps:List Str}{sp:Sp}{dvs:List V}{ds:List Value}{E:XS}{x:Str}{p pos:Pos}{e:Expr}{es:List Expr}{t:TA}
theorem vQ{pins:List (Addr×Obj)}{σ:St}{H:Hp}{s:Shared}{Q:VK}{us:List Value}{vs:List V}(F:gy X.prog X.w X.K X.mg X.base CX k f fd ps sp)(hr:fK k X.A)(hb:Binds X.K fd ps ds)(hd:bp dvs ds)(hx:oX CX X E)
  (I:Inv X pins σ H s)(r:bp vs us)(h:sp (vs++dvs) H Q (E σ)):wpAny (model X.prog X.w) X.A (call (.ref f) us) (EP X pins σ Q) X.xe s:=by
 have r2:bp (vs++dvs) (us++ds):=r.append hd;have hl:(us++ds).length=ps.length:=r2.length.symm.trans (F.len _ _ _ _ h);refine fv (fX (F.run X.A X.stack s H ⟨us,[]⟩ (us++ds) (vs++dvs) Q (E σ) hr I.env0 (hb s us I.kIn hl) r2 h) fun r s' hq=>?_);cases r with
 |error e=>exact hx pins σ H s e s' I hq
 |ok fl=>cases fl<;>first |exact I.after hq|exact dM hq
theorem sT(F:gy X.prog X.w X.K X.mg X.base CX k f fd ps sp)(hr:fK k X.A)(hg:Gl X x)(hm:X.mg x=some (.ref f))(hk:b9 X.K (.ref f)=true)(hb:Binds X.K fd ps ds)(hd:bp dvs ds)(hx:oX CX X E)
  (ha:PA X (e::es) t)(hdb:(x==("__debug__":Str))=false)(he:aB (e::es) X.env=(false,eval e X.env)::aB es X.env)(hpl:(backTo pos (aB es X.env)).any (·.1)=false):
  PE X (.Call (.Name x p) (e::es) [] pos) (fun σ H Q=>sG sp dvs (E σ) t σ H Q):=by
 intro pins s σ H Q I h;refine cS (gD I hg hm ?_ hdb);exact gB (h₀:=X.base) I.ok.mod.kin hk (thn (ha pos pins s σ H _ I h) fun us s1 ⟨vs,H1,I1,r,q⟩=>⟨I1.kIn,vQ F hr hb hd hx I1 r q⟩) he hpl
theorem pX(F:gy X.prog X.w X.K X.mg X.base CX k f fd ps sp)(hr:fK k X.A)(hg:Gl X x)(hm:X.mg x=some (.ref f))(hk:b9 X.K (.ref f)=true)(hb:Binds X.K fd ps ds)(hd:bp dvs ds)(hx:oX CX X E)
  (hdb:(x==("__debug__":Str))=false):PE X (.Call (.Name x p) [] [] pos) (fun σ H Q=>sG sp dvs (E σ) pk σ H Q):=by
 intro pins s σ H Q I h;refine cS (gD I hg hm ?_ hdb);exact PySem.W.callWith_K0 I.kIn hk (vQ (us:=[]) F hr hb hd hx I .nil h)
end
section
variable {P:Program}{w:World}{K:aa}{mg:Str->Option Value}{base:Heap}
theorem ye{N:List Str}{qual:Str}{scope:Scope}{f:Addr}{cd:Value}{A:Around}{outer:List Env}{s:Shared}{H:Hp}{E:XK}:
  oX (CXx P w) (rF (CXx P w) P w K mg base N qual scope f cd A outer s H E) (fun _=>E):=by
 intro pins σ H1 s1 e s' I h;obtain⟨a,c,d,H',rfl,ho,hg,u,hok,F,q⟩:=h;show wpAny _ _ (leaving _ _) _ _ _;unfold leaving;refine af (tj I rfl rfl rfl ho hg u hok F fun s2 I2 F2=>?_);obtain⟨⟨T,oe,vs,oT,ts,h1,h2,h3,h4,h5,h6,h7,h8,h9,h10,h11,_⟩,b1,b2,_⟩:=F2;exact⟨a,c,d,H',rfl,I2.os,I2.bare,I2.base,I2.hok,⟨⟨T,oe,vs,oT,ts,h1,h2,h3,h4,h5,h6,h7,h8,h9,h10,h11,fun _ z=>nomatch z⟩,b1,b2,fun _ z=>nomatch z⟩,q⟩
theorem yf{N:List Str}{qual:Str}{scope:Scope}{f:Addr}{cd:Value}{A:Around}{outer:List Env}{s:Shared}{H:Hp}{E:XK}:
  MadeS (rF (CXx P w) P w K mg base N qual scope f cd A outer s H E) (fun _=>E):=by
 intro pins σ H1 s1 a c args h' I hm q;show wpAny _ _ (leaving _ _) _ _ _;unfold leaving;refine af (td I rfl rfl rfl hm fun s2 I2 F2=>?_);obtain⟨⟨T,oe,vs,oT,ts,h1,h2,h3,h4,h5,h6,h7,h8,h9,h10,h11,_⟩,b1,b2,_⟩:=F2;exact⟨a,c,none,H1,rfl,I2.os,I2.bare,I2.base,I2.hok,⟨⟨T,oe,vs,oT,ts,h1,h2,h3,h4,h5,h6,h7,h8,h9,h10,h11,fun _ z=>nomatch z⟩,b1,b2,fun _ z=>nomatch z⟩,q⟩
theorem cxx0{o:List Env}{H:Hp}{s:Shared}{e:Value}{s':Shared}(h:CXx P w o H s E0 e s'):False:=by
 obtain⟨_,_,_,_,_,_,_,_,_,_,q⟩:=h;exact q
theorem gy.calm{k:Nat}{f:Addr}{fd:dh}{ps:List Str}{sp:Sp}(F:gy P w K mg base (CXx P w) k f fd ps sp):gy P w K mg base CX0 k f fd ps (fun vs H Q _=>sp vs H Q E0):=
 ⟨fun vs H Q E h=>F.len vs H Q E0 h,fun A outer s H args us vs Q E hr he hb hv hs=>fX (F.run A outer s H args us vs Q E0 hr he hb hv hs) fun r s' q=>by
  cases r with
  |error e=>exact cxx0 q
  |ok fl=>cases fl<;>exact q⟩
end
end L2
namespace Q
open PySem PySem.Spec PySem.W PyProof.Rows L2
noncomputable def tlt(x y:Str):Bool:=decide (x.cps.toList<y.cps.toList)
noncomputable def ltOf(ks:List Str)(i j:Nat):Bool:=tlt (ks.getD i "") (ks.getD j "")
noncomputable def ord(ks:List Str):List Nat:=if ks.length<2 then aU ks.length else(run (ltOf ks) (kas_sort ks.length)).toList
noncomputable def sortBy{α:Type}(d:α)(ks:List Str)(ys:List α):List α:=(ord ks).map fun i=>ys.getD i d
noncomputable def TupKeys(H:Hp)(ys:List V)(ks:List Str):Prop:=Paired (fun v k=>∃a rest,v=V.ref a/\H a=some (.tup (V.str k::rest))) ys ks
noncomputable def rSort(K:aa):List V->Hp->VK->Prop:=fun xs H Q=>∃p ys ks,xs=[V.ref p]/\SqL K H p ys/\ks.length<64/\ks.Nodup/\(ys=ks.map V.str\/TupKeys H ys ks)/\∀l,H l=none->Q (.ref l) (upd H l (.lst (sortBy .non ks ys)))
set_option maxHeartbeats 3200000
noncomputable def has(acc:List Key)(k:Key):Bool:=acc.any fun x=>decide (x=k)
theorem jq{acc:List Key}{k:Key}:has acc k=true↔k∈acc:=by
 unfold has;rw[ph];constructor
 ·rintro⟨x,h,e⟩
  rw[<-of_decide_eq_true e];exact h
 ·exact fun h=>⟨k,h,decide_eq_true rfl⟩
noncomputable def more(acc:List Key)(k:Key):List Key:=if has acc k=true then acc else acc++[k]
noncomputable def met(ks:List Key):List Key:=ks.foldl more []
theorem Ad(ks:List Key)(k:Key):met (ks++[k])=more (met ks) k:=by unfold met;rw[List.foldl_append];rfl
theorem tD{acc:List Key}{k j:Key}:j∈more acc k↔j∈acc\/j=k:=by
 unfold more;split
 ·rename_i h
  constructor
  ·exact .inl
  ·rintro(z|rfl)
   ·exact z
   ·exact jq.mp h
 ·simp
theorem kB(acc:List Key)(k:Key):(more acc k).length=if has acc k=true then acc.length else acc.length+1:=by
 unfold more;split <;>simp
theorem met_le(ks:List Key):(met ks).length<=ks.length:=by
 unfold met;have g:∀(l acc:List Key),(l.foldl more acc).length<=acc.length+l.length:=by
  intro l
  induction l with
  |nil=>intro acc;simp
  |cons k l ih=>
   intro acc;have h1:=ih (more acc k);have h2:=kB acc k;rw[cA,aY];split at h2<;>omega
 simpa using g ks []
theorem mT{ks:List Key}{k:Key}:k∈met ks↔k∈ks:=by
 unfold met;have g:∀(l acc:List Key),k∈l.foldl more acc↔k∈acc\/k∈l:=by
  intro l
  induction l with
  |nil=>intro acc;simp
  |cons j l ih=>
   intro acc;rw[cA,ih,tD,aA,or_assoc]
 simpa using g ks []
theorem xN{ks:List Key}(h:ks.Nodup):met ks=ks:=by
 unfold met;have g:∀(l acc:List Key),(acc++l).Nodup->l.foldl more acc=acc++l:=by
  intro l
  induction l with
  |nil=>intro acc _;simp
  |cons k l ih=>
   intro acc hn;have hk:k∉acc:=fun z=>(fm.mp hn).2.2 k z k (.head _) rfl;have e:more acc k=acc++[k]:=if_neg fun z=>hk (jq.mp z);rw[cA,e,ih (acc++[k]) (by simpa using hn)];simp
 simpa using g ks [] (by simpa using h)
theorem xK(ks:List Key):(met ks).Nodup:=by
 unfold met;have g:∀(l acc:List Key),acc.Nodup->(l.foldl more acc).Nodup:=by
  intro l
  induction l with
  |nil=>intro acc h;exact h
  |cons k l ih=>
   intro acc h;rw[cA];refine ih _ ?_;unfold more;split
   ·exact h
   ·rename_i c
    refine fm.mpr ⟨h,by simp,fun a ha b hb e=>c ?_⟩;have e2:b=k:=by simpa using hb
    rw[<-e2,<-e];exact jq.mpr ha
 exact g ks [] List.nodup_nil
theorem rg{ks:List Key}(h:(met ks).length=ks.length):ks.Nodup:=by
 have up:∀(l acc:List Key),(l.foldl more acc).length<=acc.length+l.length:=by
  intro l
  induction l with
  |nil=>intro acc;simp
  |cons k l ih=>
   intro acc;have h1:=ih (more acc k);have h2:=kB acc k;rw[cA,aY];split at h2<;>omega
 have g:∀(l acc:List Key),acc.Nodup->(l.foldl more acc).length=acc.length+l.length->(acc++l).Nodup:=by
  intro l
  induction l with
  |nil=>intro acc h _;simpa using h
  |cons k l ih=>
   intro acc hn e;rw[cA,aY]at e;have h1:=up l (more acc k);have h2:=kB acc k;by_cases c:has acc k=true
   ·rw[if_pos c]at h2
    omega
   ·rw[if_neg c]at h2
    have em:more acc k=acc++[k]:=if_neg c;rw[em]at e;have hk:k∉acc:=fun z=>c (jq.mpr z);have hn2:(acc++[k]).Nodup:=fm.mpr ⟨hn,by simp,fun a ha b hb e=>hk (by
     have e2:b=k:=by simpa using hb
     rw[<-e2,<-e];exact ha)⟩
    have :=ih (acc++[k]) hn2 (by rw[aD,jN];omega)
    simpa using this
 simpa using g ks [] List.nodup_nil (by simpa[met]using h)
theorem met_one{ks:List Key}:(met ks).length<=1↔∀a∈ks,∀b∈ks,a=b:=by
 constructor
 ·intro h a ha b hb
  have ha':=mT.mpr ha;have hb':=mT.mpr hb
  match e:met ks,h with
  | [],_=>rw[e]at ha';cases ha'
  | [x],_=>
   rw[e]at ha' hb';rw[bc.mp ha',bc.mp hb']
 ·intro h
  match e:met ks with
  | []=>simp
  | [x]=>simp
  |x::y::r=>
   have n:=xK ks;rw[e]at n;have hx:x∈ks:=mT.mp (by rw[e];exact .head _);have hy:y∈ks:=mT.mp (by rw[e];exact .tail _ (.head _));have :=h x hx y hy;rw[this]at n;simp at n
noncomputable abbrev ly(led:Bool):Obj:={cls:=.type "set",dict:=none,data:=.set #[] 0 (.fresh 0 0 led)}
noncomputable def uV(a:Addr)(n:Nat):HO:=.ext fun h=>∃o es ep t,h.get? a=some o/\o.ExactSet/\o.data=.set es ep t/\es.size<fB/\t.fits es.size=true/\es.size=n
theorem wu:∀{ks:List Key}{us:List Value},bp (ks.map kV) us->∀(i:Nat)(v:Value),us[i]? =some v->∃k,ks[i]? =some k/\RelV (kV k) v
 | [],_,.nil,i,v,e=>by simp at e
 |k::ks,_,.cons r t,0,v,e=>by
  simp at e;subst e;exact⟨k,rfl,r⟩
 |k::ks,_,.cons r t,i+1,v,e=>wu t i v (by simpa using e)
noncomputable def rSet(K:aa):List V->Hp->VK->Prop:=fun xs H Q=>∃p ks,xs=[V.ref p]/\SqL K H p (ks.map kV)/\ks.length<4000/\∀a,H a=none->Q (.ref a) (upd H a (uV a (met ks).length))
theorem pE{X:Cx}:eK X (.builtin "len") (fun xs H Q=>∃a n,xs=[V.ref a]/\H a=some (uV a n)/\Q (.int n) H):=by
 intro pins s σ H xs us Q I r h;obtain⟨a,n,rfl,e,q⟩:=h;obtain⟨u,rfl,rx⟩:=vals1 r;cases rx;obtain⟨⟨o,es,ep,t,ho,hex,hd,hbb,hf,rfl⟩,_⟩:=I.hok a _ e;refine call_len_set ho hex hd hf (by have :es.size<4096:=hbb;omega) ?_;exact⟨.int es.size,H,I.tok _,⟨_,rfl⟩,q⟩
end Q
namespace L2
open PySem PySem.Spec PyProof.Rows
section
variable {X:Cx}
noncomputable def vX(K:aa):R2:=fun x y H Q=>∃a b ys,x=.ref a/\y=.ref b/\SqT K H a []/\SqT K H b ys/\Q (.ref b) H
theorem op_cat0:OpR X (cB .Add) (vX X.K):=by
 intro pins s σ H x y v u Q I rx ry h;obtain⟨a,b,ys,rfl,rfl,ha,hb,q⟩:=h;cases rx;cases ry;obtain⟨its,r1,p1,_⟩:=I.tuple ha;obtain⟨its2,r2,p2,_⟩:=I.tuple hb;cases r1;obtain⟨⟨cls,dd,data,sl⟩,ho,hc,n,hd⟩:=id p1;obtain⟨⟨cls2,dd2,data2,sl2⟩,ho2,hc2,n2,hd2⟩:=id p2;simp only at hc hd hc2 hd2;subst hc hd hc2 hd2;exact concat_meets ⟨_,ho,rfl⟩ ⟨_,ho2,rfl⟩ ui AX iO ig (gX _ _) (tuple_addW0 a b _ _ n n2 dd dd2 sl sl2 rfl) ⟨ho,ho2,.ref b,H,I,rfl,q⟩
theorem qi(a b:Array Nat):∀k:Nat,((aV k a).foldl (·++·) b).size=b.size+k*a.size
 | 0=>by simp
 |k+1=>by
  rw[dg,cA,qi a (b++a) k,mK,Nat.succ_mul];omega
noncomputable def zz:R2:=fun x y H Q=>∃(z:Str)(n:Int),x=.str z/\y=.int n/\2<=n/\n<=1000/\1<=z.length/\z.length<=1000/\Q (.str ⟨(aV n.toNat z.cps).foldl (·++·) #[]⟩) H
theorem op_repS:OpR X (cB .Mult) zz:=by
 intro pins s σ H x y v u Q I rx ry h;obtain⟨z,n,rfl,rfl,h1,h2,h3,h4,q⟩:=h;obtain⟨t,rfl⟩:=rx;obtain⟨t',rfl⟩:=ry;have c1:¬n<1:=by omega
 have c2:(n==1||z.length==0)=false:=by
  rw[Bool.or_eq_false_iff];exact⟨by simp;omega,by simp;omega⟩
 have hm:z.length*n.toNat<=1000*1000:=Nat.mul_le_mul h4 (by omega);have hn:((n.toNat:Nat):Int)=n:=by omega
 have hm2:(z.length:Int)*n<=1000*1000:=by
  rw[<-hn,<-Int.natCast_mul];exact Int.ofNat_le.mpr hm
 refine P.mul_str (by rw[decide_eq_false (by omega),decide_eq_false (by omega)];rfl) (fun _ _=>?_) (fun _ _=>?_) ?_
 ·exact Int.not_lt.mpr (Int.le_ediv_of_mul_le (by omega) (by omega))
 ·exact decide_eq_false (Nat.not_lt.mpr (au hm (by decide)))
 ·rw[if_neg c1,if_neg (by rw[c2];exact aP)]
  refine⟨?_,.str _,H,I.tok _,⟨_,rfl⟩,q⟩;show((aV n.toNat z.cps).foldl (·++·) #[]).size<=_;rw[qi];exact au (by rw[Nat.mul_comm];simpa[bX]using hm) (by decide:1000*1000<=sizeLine)
noncomputable def rJoin(K:aa):V->List V->Hp->VK->Prop:=fun x vs H Q=>∃(sep:Str)(p:Addr)(ys:List Str),x=.str sep/\vs=[.ref p]/\SqL K H p (ys.map V.str)/\sep.length<=16/\(ys.map (·.length)).sum+ys.length<=1048576/\Q (.str (dW sep ys)) H
theorem pS:∀{ks:List Str}{vs:List Value},bp (ks.map V.str) vs->StrsAre vs ks
 | [],_,.nil=>.nil
 |k::ks,_,.cons r t=>by
  obtain⟨tk,rfl⟩:=r;exact .cons k tk (pS t)
theorem mt_join:MtR X "str.join" (rJoin X.K):=by
 intro pins s σ H x vs v us Q I rx rv h;obtain⟨sep,p,ys,rfl,rfl,hq,h1,h2,q⟩:=h;obtain⟨t,rfl⟩:=rx;obtain⟨u,rfl,ru⟩:=vals1 rv;cases ru;obtain⟨its,r,pl,hz⟩:=I.list hq;exact join_listW pl.isList (by simpa using pS r) h1 h2 fun t' k=>⟨.str _,H,I.tok k,⟨_,rfl⟩,q⟩
end
set_option maxHeartbeats 1000000
section
variable {X:Cx}
noncomputable def rIxD(K:aa):R2:=fun x y H Q=>∃a b kvs k v,x=.ref a/\y=.ref b/\H a=some (.dT kvs)/\SqT K H b (k.map kV)/\iQ kvs k=some v/\Q v H
noncomputable def rSetdef:V->List V->Hp->VK->Prop:=fun x xs H Q=>∃a b kvs k v,x=.ref a/\xs=[.ref b,v]/\H a=some (.dT kvs)/\H b=some (.tup (k.map kV))/\kvs.length<sizeLine/\
 (∀z,iQ kvs k=some z->Q z H)/\(iQ kvs k=none->Q v (upd H a (.dT (putK kvs k v))))
end
section
variable {X:Cx}
noncomputable def isRef:V->Bool
 |.ref _=>true
 |_=>false
noncomputable def rInD(K:aa)(neg:Bool):R2:=fun x y H Q=>∃p xs ds d,y=.ref p/\SqL K H p xs/\xs.all isRef=true/\Rep K H d x/\gx K H ds xs/\gf ds<=30/\
 Q (.bl (if neg then !(ds.any fun d'=>eqD d' d)else ds.any fun d'=>eqD d' d)) H
open Classical in
open Classical in
end
section
variable {X:Cx}{e:Expr}{te:TE}{pos p2 p3 p4:Pos}{cd:Nat}
noncomputable def tRev(K:aa)(te:TE):TE:=fun σ H Q=>te σ H fun x H1=>∃a xs,x=.ref a/\SqL K H1 a xs/\∀p,H1 p=none->Q (.ref p) (upd H1 p (.lst xs.reverse))
end
end L2
namespace Q
open PySem PySem.Spec PySem.W PyProof.Rows L2
noncomputable def ltI(ns:List Int)(i j:Nat):Bool:=decide (ns.getD i 0<ns.getD j 0)
noncomputable def ordI(ns:List Int):List Nat:=if ns.length<2 then aU ns.length else(run (ltI ns) (kas_sort ns.length)).toList
noncomputable def sortI(ns:List Int):List V:=(ordI ns).map fun i=>(ns.map V.int).getD i .non
noncomputable def rSortI(K:aa):List V->Hp->VK->Prop:=fun xs H Q=>∃p ns,xs=[V.ref p]/\SqL K H p (ns.map V.int)/\ns.length<64/\ns.Nodup/\∀l,H l=none->Q (.ref l) (upd H l (.lst (sortI ns)))
end Q
namespace L2
open PySem PySem.Spec PyProof.Rows
section
variable {X:Cx}
noncomputable def nats(n:Nat):List V:=(aU n).map fun i:Nat=>V.int (i:Int)
noncomputable def tLRng(ta:TA):TE:=fun σ H Q=>ta σ H fun vs H1=>∃n:Nat,vs=[.int n]/\n<=1000/\∀p,H1 p=none->Q (.ref p) (upd H1 p (.lst (nats n)))
end
section
variable {X:Cx}
noncomputable def leP(a b c d:Int):Bool:=decide (a<c\/a=c/\b<=d)
noncomputable def rLeP(K:aa):R2:=fun x y H Q=>∃p q a b c d,x=.ref p/\y=.ref q/\SqT K H p [.int a,.int b]/\SqT K H q [.int c,.int d]/\Q (.bl (leP a b c d)) H
noncomputable def rIndex:V->List V->Hp->VK->Prop:=fun x vs H Q=>∃(l:Addr)(ns:List Int)(k:Int),x=.ref l/\vs=[.int k]/\H l=some (.lst (ns.map V.int))/\k∈ns/\ns.length<=60/\Q (.int (ns.idxOf k:Nat)) H
end
end L2
namespace Q
open PySem PySem.Spec PySem.W PyProof.Rows L2
noncomputable def plt(x y:Int×Int):Bool:=decide (x.1<y.1\/x.1=y.1/\x.2<y.2)
noncomputable def ltP(ps:List (Int×Int))(i j:Nat):Bool:=plt (ps.getD i (0,0)) (ps.getD j (0,0))
noncomputable def ordP(ps:List (Int×Int)):List Nat:=if ps.length<2 then aU ps.length else(run (ltP ps) (kas_sort ps.length)).toList
noncomputable def sortP{α:Type}(d:α)(ps:List (Int×Int))(ys:List α):List α:=(ordP ps).map fun i=>ys.getD i d
noncomputable def AR(H:Hp)(ys:List V)(ps:List (Int×Int)):Prop:=Paired (fun v k=>∃a,v=V.ref a/\H a=some (.tup [.int k.1,.int k.2])) ys ps
noncomputable def rSortP(K:aa):List V->Hp->VK->Prop:=fun xs H Q=>∃p ys ps,xs=[V.ref p]/\SqL K H p ys/\ps.length<64/\ps.Nodup/\AR H ys ps/\∀l,H l=none->Q (.ref l) (upd H l (.lst (sortP .non ps ys)))
end Q
namespace D8
open PySem PySem.Spec PySem.W PyProof.Rows L2
noncomputable abbrev four:List (Int×Int):=[(0,0),(0,1),(1,0),(1,1)]
noncomputable def Prs(H:Hp)(as:List Addr)(ps:List (Int×Int)):Prop:=as.length=ps.length/\∀(i:Nat) a q,as[i]? =some a->ps[i]? =some q->H a=some (.tup [.int q.1,.int q.2])
noncomputable def rSetP(K:aa):List V->Hp->VK->Prop:=fun xs H Q=>∃p as ps,xs=[V.ref p]/\SqL K H p (as.map V.ref)/\Prs H as ps/\(∀q∈ps,q∈four)/\∀a (ks:List (Int×Int)),H a=none->ks.Nodup->(∀r,r∈ks↔r∈ps)->Q (.ref a) (upd H a (_root_.Q.uV a ks.length))
end D8
namespace L2
open PySem PySem.Spec PyProof.Rows
section
variable {X:Cx}
noncomputable def CDivB(_ j:Int):Prop:=0<j/\j.natAbs.log2<9000
noncomputable def rDivB:R2:=rI CDivB fun i j=>.int (i/j)
noncomputable def rInsert:V->List V->Hp->VK->Prop:=fun x vs H Q=>∃l xs k y,x=.ref l/\vs=[.int k,y]/\H l=some (.lst xs)/\xs.length<sizeLine/\0<=k/\k<=xs.length/\Q .non (upd H l (.lst (xs.take k.toNat++y::xs.drop k.toNat)))
end
section
variable {X:Cx}
noncomputable def zy:V->List V->Hp->VK->Prop:=fun x vs H Q=>∃z y:Str,x=.str z/\vs=[.str y]/\(y.length==0)=false/\z.length+2<=sizeLine/\∀p,H p=none->Q (.ref p) (upd H p (.lst ((Txt.split z y).map V.str)))
theorem jD:∀(l:List (Str×Tok)),bp ((l.map (·.1)).map V.str) (strValues l)
 | []=>.nil
 | (x,t)::l=>.cons ⟨t,rfl⟩ (jD l)
theorem Aa:MtR X "str.split" zy:=by
 intro pins s σ H v vs u us Q I rx rv h;obtain⟨x,y,rfl,rfl,hy,hz,q⟩:=h;obtain⟨t,rfl⟩:=rx;obtain⟨w,rfl,ru⟩:=rv.one;obtain⟨u,rfl⟩:=ru;have fin:∀(l:List (Str×Tok))(tk:Nat),l.map (·.1)=Txt.split x y->EP X pins σ Q (.ref s.heap.objs.size) {s with heap:=s.heap.push {cls:=.type "list",data:=.seq (strValues l).toArray},toks:=tk}:=fun l tk e=>by
  have hl:((Txt.split x y).map V.str).length<=sizeLine:=by
   rw[av];exact au (split_le x y) hz
  have hv:bp ((Txt.split x y).map V.str) (strValues l):=by rw[<-e];exact jD l
  exact⟨.ref s.heap.objs.size,_,I.lnew (t':=tk) hv hl,rfl,q _ (I.hok.fresh (ao _))⟩
 cases h1:(decide (x.length<y.length)||decide (so x<so y))
 ·cases hf:(bS x y 0 x.length (x.length+1)).isEmpty
  ·have hn:(o8 x (bS x y 0 x.length (x.length+1)) y.length).length<=sizeLine:=by
    rw[len_partsBetween];have :=StrLaws.occ_length_le x y 0 x.length (x.length+1);omega
   refine gz eP (iM _ _ _) ij (gY _ _) (PySem.meets_str_split_sep x y t u h1 hy hf (by omega) hn) ?_;show wants _ _ _ {s with toks:=_,heap:=s.heap.push {cls:=.type "list",data:=.seq (strsFrom s.toks (o8 x (bS x y 0 x.length (x.length+1)) y.length)).toArray}};rw[strsFrom_eq];exact fin (numbered s.toks _) _ ((numbered_texts _ _).trans ((if_neg (ne_true_of_eq_false h1)).trans (if_neg (ne_true_of_eq_false hf))).symm)
  ·exact gz eP (iM _ _ _) ij (gY _ _) (PySem.meets_str_split_not_found x y t u h1 hy hf) (fin [(x,t)] _ ((if_neg (ne_true_of_eq_false h1)).trans (if_pos hf)).symm)
 ·exact gz eP (iM _ _ _) ij (gY _ _) (PySem.meets_str_split_cannot_occur x y t u h1) (fin [(x,t)] _ (if_pos h1).symm)
end
noncomputable def Itz(K:aa)(a b:Addr):It:=
 ⟨fun i H=>∃xs ys x y,SqL K H a xs/\SqL K H b ys/\xs[i]? =some x/\ys[i]? =some y,
  fun i H v H'=>∃p x y,H p=none/\H'=upd H p (.tup [x,y])/\v=.ref p/\(∀xs,SqL K H a xs->xs[i]? =some x)/\∀ys,SqL K H b ys->ys[i]? =some y,
  fun i H=>∃xs ys,SqL K H a xs/\SqL K H b ys/\(xs.length<=i\/ys.length<=i)⟩
section
variable {X:Cx}{es:List Expr}{kk:Nat}{pp:Pos}
noncomputable def iZip(K:aa)(t:TA):TI:=fun σ H R=>t σ H fun vs H1=>∃a b,vs=[.ref a,.ref b]/\(∃xs,SqL K H1 a xs)/\(∃ys,SqL K H1 b ys)/\R (Itz K a b) H1
end
noncomputable def yk(P:Program)(w:World)(K:aa)(a:Addr)(kvs:List (Key×V)):Prop:=
 (a==kW)=false/\∃vs,KV kvs vs/\∀h,K.In h->h.DictOf (de P w) a vs
section
variable {X:Cx}{dic:Addr->Option (List (Key×V))}
noncomputable def rInG(dic:Addr->Option (List (Key×V))):R2:=fun x y H Q=>∃a kvs k,y=.ref a/\dic a=some kvs/\x=kV k/\Q (.bl (iQ kvs k).isSome) H
noncomputable def rIxG(dic:Addr->Option (List (Key×V))):R2:=fun x y H Q=>∃a kvs k v,x=.ref a/\dic a=some kvs/\y=kV k/\iQ kvs k=some v/\Q v H
theorem op_inG(hd:∀a kvs,dic a=some kvs->yk X.prog X.w X.K a kvs):OpR X (bV .In) (rInG dic):=by
 intro pins s σ H x y u v Q I rx ry h;obtain⟨a,kvs,k,rfl,e,rfl,q⟩:=h;cases ry;obtain⟨hs,vs,rel,dd⟩:=hd a kvs e;refine wpAny_in_of (wx rx) hs (dd _ I.kIn).mapOf ?_;rw[<-(rel.val k).xU];exact⟨.bl (iQ kvs k).isSome,H,I.tok _,rfl,q⟩
theorem ix_inG(hd:∀a kvs,dic a=some kvs->yk X.prog X.w X.K a kvs):IxR X (rIxG dic):=by
 intro value slice pins s σ H x y v u Q I rx ry h hs;obtain⟨a,kvs,k,z,rfl,e,rfl,hv,q⟩:=h;cases rx;obtain⟨_,vs,rel,dd'⟩:=hd a kvs e;have dd:=dd' _ I.kIn;have hT:s.TypeIs (.ref a) "dict":=dd.typeIs;unfold AW;refine af ?_;rw[getitemInPython_of_ne hT.not_modules];refine af (wpAny_specialOf hT PySem.F.slot_dict_getitem.lookup ?_);have fin:wpAny (model X.prog X.w) X.A (subscripted slice false (.ref a) u) (fun r s₃=>wpAny (model X.prog X.w) X.A (letTemporaryGo value (.ref a) r>>=fun _=>pure r) (EP X pins σ Q) X.xe s₃) X.xe s:=by
  rw[hs];obtain⟨w',hw,rw'⟩:=mI.some_of (v:=z) (o:=rT vs k) (by rw[<-hv];exact rel.val k);refine wpAny_operating (bM (wpAny_getItem_of (Q:=EP X pins σ Q) (wx ry) dd.mapOf hw ?_) (fun r s₃ h₃=>af (wpAny_letTemporaryGo (aj h₃))) fun _ _ x=>x);exact⟨z,H,I.tok _,rw',q⟩
 first
  |exact aj (af fin)
  |exact af (aj (af fin))
  |exact af fin
end
noncomputable def fText(pre post:Str)(i:Int):Str:=d9++pre++(toString i:Str)++post
noncomputable def tFst(pre post:Str)(t:TE):TE:=fun σ H Q=>(d9++pre).length<=sizeLine/\t σ H fun x H1=>∃i,x=.int i/\i.natAbs.log2<1920/\(fText pre post i).length<=sizeLine/\Q (.str (fText pre post i)) H1
section
variable {X:Cx}
theorem pe_fstr{pre post:Str}{e:Expr}{t:TE}{k1 k2:Nat}{p1 p2 p3 p4:Pos}(he:PE X e t):
  PE X (.JoinedStr [.Constant (.str pre) k1 p1,.FormattedValue e (-1) none p2,.Constant (.str post) k2 p3] p4) (tFst pre post t):=by
 intro pins s σ H Q I h;obtain⟨hp,h⟩:=h;refine wpAny_JoinedStr ?_;have key:∀i:Int,(fText pre post i).length<=sizeLine->(d9++pre).length<=sizeLine/\(d9++pre++(toString i:Str)).length<=sizeLine/\(d9++pre++(toString i:Str)++post).length<=sizeLine:=fun i z=>by
  have z':(d9++pre++(toString i:Str)++post).length<=sizeLine:=z;have e1:(d9++pre++(toString i:Str)++post).length=(d9++pre++(toString i:Str)).length+post.length:=strLen_append ..;have e2:(d9++pre++(toString i:Str)).length=(d9++pre).length+(toString i:Str).length:=strLen_append ..;omega
 show wpAny _ _ (eval (.Constant (.str pre) k1 p1) X.env) _ _ s;refine thn (nB (X:=X) pins s σ H (fun v H1=>v=.str pre/\H1=H) I ⟨rfl,rfl⟩) fun u s1 ⟨x,H1,I1,rx,ex,eH⟩=>?_;subst ex;subst eH;obtain⟨t1,rfl⟩:=rx;refine⟨pre,t1,rfl,hp,?_⟩;show wpAny _ _ (eval (.FormattedValue e (-1) none p2) X.env) _ _ s1;refine wpAny_FormattedValue_plain (thn (he pins s1 σ H1 _ I1 h) fun u s2 ⟨x,H2,I2,rx,i,ex,hi,hl,q⟩=>?_);subst ex;obtain⟨t2,rfl⟩:=rx;refine wpAny_formatField_int hi ?_;refine⟨_,_,rfl,(key i hl).2.1,?_⟩;have I3:=I2.tok (s2.toks+1+1);show wpAny _ _ (eval (.Constant (.str post) k2 p3) X.env) _ _ _;refine thn (nB (X:=X) pins _ σ H2 (fun v H1=>v=.str post/\H1=H2) I3 ⟨rfl,rfl⟩) fun u s4 ⟨x,H4,I4,rx,ex,eH⟩=>?_;subst ex;subst eH;obtain⟨t4,rfl⟩:=rx;refine⟨post,t4,rfl,(key i hl).2.2,hl,?_⟩;exact⟨.str (fText pre post i),H4,I4.tok _,⟨_,rfl⟩,q⟩
end
noncomputable def Itzt(K:aa)(a b:Addr):It:=
 ⟨fun i H=>∃xs ys x y,SqT K H a xs/\SqL K H b ys/\xs[i]? =some x/\ys[i]? =some y,
  fun i H v H'=>∃p x y,H p=none/\H'=upd H p (.tup [x,y])/\v=.ref p/\(∀xs,SqT K H a xs->xs[i]? =some x)/\∀ys,SqL K H b ys->ys[i]? =some y,
  fun i H=>∃xs,SqT K H a xs/\xs.length<=i⟩
section
variable {X:Cx}{es:List Expr}{kk:Nat}{pp:Pos}
noncomputable def iZipT(K:aa)(t:TA):TI:=fun σ H R=>t σ H fun vs H1=>∃a b,vs=[.ref a,.ref b]/\(∃xs,SqT K H1 a xs)/\(∃ys,SqL K H1 b ys)/\R (Itzt K a b) H1
end
end L2
namespace PySem
open Sem (wp)
local macro_rules | `(term| «the numeral») => return Lean.mkIdent (bj (bj (bj (Lean.Name.num (bj (bj (bj (bj (bj uB "_private") "PySem") "Builtin") "Int") "W0All") 0) "PySem") "Builtin") "readNumeral")
local macro_rules | `(term| «a value») => return Lean.mkIdent (bj (bj (bj (bj (Lean.Name.num (bj (bj (bj (bj (bj uB "_private") "PySem") "Builtin") "Int") "W0All") 0) "PySem") "Builtin") "Numeral") "value")
end PySem
namespace L2
open PySem PySem.Spec PyProof.Rows
inductive Fig:Str->Int->Prop
 |one {a:Nat} (h:a<10):Fig ⟨#[48+a]⟩ (a:Nat)
 |two {a b:Nat} (ha:a<10) (hb:b<10):Fig ⟨#[48+a,48+b]⟩ (10*a+b:Nat)
section
variable {X:Cx}{dic:Addr->Option (List (Key×V))}
noncomputable def upS(z:Str):Str:=⟨placed z fun _ c=>Unicode.upperOf c⟩
noncomputable def zx:V->List V->Hp->VK->Prop:=fun x vs H Q=>∃z:Str,x=.str z/\vs=[]/\(upS z).length<=100/\Q (.str (upS z)) H
theorem z9:MtR X "str.upper" zx:=by
 intro pins s σ H v vs u us Q I rx rv h;obtain⟨z,rfl,rfl,hz,q⟩:=h;obtain⟨t,rfl⟩:=rx;cases rv;refine gz uo (iM _ _ _) PySem.F.entry_str_upper (PySem.F.args_str_upper_1 _) (gives_str_upper z t (by unfold Builtin.Str.tooLong;rw[decide_eq_false_iff_not];exact Nat.not_lt.mpr (au hz (by decide)))).meets ?_;exact⟨au hz (by decide),.str (upS z),H,I.tok _,⟨_,rfl⟩,q⟩
noncomputable def rNiG(dic:Addr->Option (List (Key×V))):R2:=fun x y H Q=>∃a kvs k,y=.ref a/\dic a=some kvs/\x=kV k/\Q (.bl (!(iQ kvs k).isSome)) H
end
end L2
namespace Q
open PySem PySem.Spec PySem.W PyProof.Rows L2
noncomputable def llt:List Int->List Int->Bool
 | [],[]=>false
 | [],_::_=>true
 |_::_,[]=>false
 |a::x,b::y=>decide (a<b)||(decide (a=b)&&llt x y)
noncomputable def ltL(ps:List (List Int))(i j:Nat):Bool:=llt (ps.getD i []) (ps.getD j [])
noncomputable def ordL(ps:List (List Int)):List Nat:=if ps.length<2 then aU ps.length else(run (ltL ps) (kas_sort ps.length)).toList
noncomputable def sortL{α:Type}(d:α)(ps:List (List Int))(ys:List α):List α:=(ordL ps).map fun i=>ys.getD i d
noncomputable def IntKeys(H:Hp)(ys:List V)(ps:List (List Int)):Prop:=Paired (fun v k=>∃a,v=V.ref a/\H a=some (.tup (k.map V.int))) ys ps
noncomputable def rSortL(K:aa):List V->Hp->VK->Prop:=fun xs H Q=>∃p ys ps m,xs=[V.ref p]/\SqL K H p ys/\ps.length<64/\ps.Nodup/\(∀k∈ps,k.length=m)/\IntKeys H ys ps/\∀l,H l=none->Q (.ref l) (upd H l (.lst (sortL .non ps ys)))
noncomputable def rMinL(K:aa):List V->Hp->VK->Prop:=fun xs H Q=>∃(p q:Addr)(a b:List Int),xs=[V.ref p,V.ref q]/\SqT K H p (a.map V.int)/\SqT K H q (b.map V.int)/\a.length=b.length/\Q (if llt b a=true then .ref q else .ref p) H
noncomputable def rMaxL(K:aa):List V->Hp->VK->Prop:=fun xs H Q=>∃(p q:Addr)(a b:List Int),xs=[V.ref p,V.ref q]/\SqT K H p (a.map V.int)/\SqT K H q (b.map V.int)/\a.length=b.length/\Q (if llt a b=true then .ref q else .ref p) H
noncomputable def cat2(k:List Int×List Int):List Int:=k.1++k.2
noncomputable def AO(H:Hp)(ys:List V)(ps:List (List Int×List Int)):Prop:=Paired (fun v k=>∃a x y rest,v=V.ref a/\H a=some (.tup (.ref x::.ref y::rest))/\H x=some (.tup (k.1.map V.int))/\H y=some (.tup (k.2.map V.int))) ys ps
noncomputable def rSortT(K:aa):List V->Hp->VK->Prop:=fun xs H Q=>∃(p:Addr)(ys:List V)(ps:List (List Int×List Int))(m:Nat),xs=[V.ref p]/\SqL K H p ys/\ps.length<64/\(ps.map cat2).Nodup/\(∀k∈ps,k.1.length=m/\k.2.length=m)/\AO H ys ps/\∀l,H l=none->Q (.ref l) (upd H l (.lst (sortL .non (ps.map cat2) ys)))
end Q
namespace L2
open PySem PySem.Spec PyProof.Rows
noncomputable def Itet(K:aa)(a:Addr):It:=
 ⟨fun i H=>∃xs x,SqT K H a xs/\xs[i]? =some x,fun i H v H'=>∃p x,H p=none/\H'=upd H p (.tup [.int i,x])/\v=.ref p/\∀xs,SqT K H a xs->xs[i]? =some x,fun i H=>∃xs,SqT K H a xs/\xs.length<=i⟩
section
variable {X:Cx}{es:List Expr}{kk:Nat}{pp:Pos}
noncomputable def iEnumT(K:aa)(t:TA):TI:=fun σ H R=>t σ H fun vs H1=>∃a,vs=[.ref a]/\(∃xs,SqT K H1 a xs)/\R (Itet K a) H1
end
end L2
namespace L2
open PySem PySem.Spec PySem.W PyProof.Rows
section
variable {prog:Program}{w:World}{A:Around}{E:Value->Shared->Prop}{h:Heap}{g:Array se}{d:Drawn}{t:Nat}{os:OsState}{nm q:Str}{C N:Addr}{bs bm bmB:List Value}{hdct:Bool}{sn:List Str}{sub:List Value}{ab:Bool}{col:Option Bool}{dd:Option Addr}{k0 k1 k2 k3 k5:Option Value}{B newId initId:String}
noncomputable abbrev tq(h:Heap)(C:Addr)(rest:List Value):Heap:=(h.push {cls:=.type "tuple",data:=.seq rest.toArray}).push {cls:=.ref C,data:=.fields #[.ref h.objs.size,.none,.none,.none,.bool false,.none]}
theorem gb{rest:List Value}{b:Addr}{o:Obj}(e:h.get? b=some o):(tq h C rest).get? b=some o:=ai _ (ai _ e)
theorem rj{rest:List Value}:(tq h C rest).get? (h.objs.size+1)=some {cls:=.ref C,data:=.fields #[.ref h.objs.size,.none,.none,.none,.bool false,.none]}:=Heap.get?_push_at (by rw[dP]) rfl
theorem m6(F:ExcBaseFacts B newId initId bmB)(T:OwnTail h bmB bm){mN:Str->Option Value}{rest:List Value}{fI:Addr}{oI:Obj}{Q:PySem.Fin->Shared->Prop}(hC:h.get? C=some (fC nm q C N bs bm hdct sn sub ab col dd k0 k1 k2 k3 k5 newId))
  (hn:h.Ns N mN)(hi:mN "__init__"=some (.ref fI))(hf:h.get? fI=some oI)(hfc:oI.cls=.type "function")(hrest:rest.length<=sizeLine)
  (hq:wpAny (model prog w) A (call (.ref fI) (.ref (h.objs.size+1)::rest)) (fun r s'=>r=.none/\Q (.done (.ret (.ref (h.objs.size+1)))) s') E ⟨tq h C rest,g,d,t,os⟩):
  wpAny (model prog w) A (Builtin.«type.__call__» ⟨.ref C::rest,[]⟩) Q E ⟨h,g,d,t,os⟩:=by
 repeat(first
  |with_reducible refine fV hC ?_
  |with_reducible refine wpAny_madeBy_exc hC ?_
  |wp_step)
 refine codeAny_call_builtin_code (my _ F.quiet) (wpAny_check_new_subT F T hC ?_);refine codeAny_exc_new_subT F T hC ?_ hrest;show wpAny _ _ _ _ _ (⟨tq h C rest,g,d,t,os⟩:Shared);have c1:=gb (C:=C) (rest:=rest) hC;have n1:(tq h C rest).Ns N mN:=hn.keeps fun b o e=>gb e;have T1:=T.keeps (h':=tq h C rest) fun b o e=>gb e;have cc:(bg C::bm).contains (.ref C)=true:=by simp
 have ea:=rj (h:=h) (C:=C) (rest:=rest);unfold isInstance;repeat(first
  |with_reducible refine fV ea ?_
  | (with_reducible refine wpAny_isSubtype_exc c1 ?_;rw[cc])
  |wp_step)
 show wpAny _ _ (typeLookup (.ref C) _) _ _ _;refine wpAny_typeLookup_tail c1 n1 T1 F.mroIs F.init.lookup ?_;rw[hi];refine bN (af ?_);unfold bindSpecial;refine af (rS (T:="function") ⟨_,gb hf,hfc⟩ ?_);rw[if_pos (by decide)];refine aj (af (bM hq (fun r s' z=>?_) fun _ _ z=>z));obtain⟨rfl,z⟩:=z
 wp_walk
 exact z
theorem yd(F:ExcBaseFacts B newId initId bmB)(T:OwnTail h bmB bm){mN:Str->Option Value}{rest:List Value}{fI:Addr}{oI:Obj}{Q:Value->Shared->Prop}(hC:h.get? C=some (fC nm q C N bs bm hdct sn sub ab col dd k0 k1 k2 k3 k5 newId))
  (hn:h.Ns N mN)(hi:mN "__init__"=some (.ref fI))(hf:h.get? fI=some oI)(hfc:oI.cls=.type "function")(hrest:rest.length<=sizeLine)
  (hq:wpAny (model prog w) (A.under (.builtin "type.__call__" ⟨.ref C::rest,[]⟩)) (call (.ref fI) (.ref (h.objs.size+1)::rest)) (fun r s'=>r=.none/\Q (.ref (h.objs.size+1)) s') E ⟨tq h C rest,g,d,t,os⟩):
  wpAny (model prog w) A (call (.ref C) rest) Q E ⟨h,g,d,t,os⟩:=by
 have f1:=tc_lookup;have f2:=tc_bind (.ref C);have hT:(⟨h,g,d,t,os⟩:Shared).TypeIs (.ref C) "type":=⟨_,hC,rfl⟩;refine fv (vI ?_);show wpAny _ _ (callAny (.ref C) _) _ _ _;repeat(any_goals (first
  |assumption
  |with_reducible refine fV hC ?_
  |wp_step))
 refine⟨rfl,?_⟩;exact codeAny_call_builtin_at (my _ (by decide+kernel)) entry_typeCall (wpAny_check_type_call_sub hC (m6 F T hC hn hi hf hfc hrest hq))
theorem yi(F:ExcBaseFacts B newId initId bmB)(T:OwnTail h bmB bm){rest:List Value}{e x0:Addr}{Q:Value->Shared->Prop}(hC:h.get? C=some (fC nm q C N bs bm hdct sn sub ab col dd k0 k1 k2 k3 k5 newId))
  (he:h.get? e=some {cls:=.ref C,data:=.fields #[.ref x0,.none,.none,.none,.bool false,.none]}) (hrest:rest.length<=sizeLine)
  (hq:∀h':Heap,(∀b o,b≠e->h.get? b=some o->h'.get? b=some o)->(∃b,h'.get? e=some {cls:=.ref C,data:=.fields #[.ref b,.none,.none,.none,.bool false,.none]})->h.objs.size<=h'.objs.size->Q .none ⟨h',g,d,t,os⟩):
  wpAny (model prog w) A (call (.builtin initId) (.ref e::rest)) Q E ⟨h,g,d,t,os⟩:=by
 refine fv (eh F.init.plain F.initEntry (wpAny_check_init_subT F T hC he rfl ?_))
 wp_walk
 have hlt:=ay he;refine hq _ (fun b o hb e1=>?_) ⟨h.objs.size,?_⟩ ?_
 ·rw[aS _ _ (bO hb)]
  exact ai _ e1
 ·rw[cQ _ (ai _ he) rfl]
  rfl
 ·rw[Heap.size_update,dP]
  exact gr _
end
noncomputable def exO(e C:Addr)(d:Option Addr):HO:=.ext fun h=>∃x0,h.get? e=some {cls:=.ref C,dict:=d,data:=.fields #[.ref x0,.none,.none,.none,.bool false,.none]}
noncomputable def xdO(d:Addr)(fs:List (Str×V)):HO:=.ext fun h=>∃mA,h.Ns1 d mA/\(∀f,mI (fs.lookup f) (mA f))/\gA mA (fs.map (·.1))
noncomputable def jW(K:aa)(C f:Addr)(bmB:List Value)(newId:String):Bool:=match K.lookup C with
 |some ⟨.type "type",_,.cls cd,sl⟩=>(match cd.mro,sl.toList with
  |.ref C'::bm,[_,_,_,_,some (.builtin n),_]=>C'==C&&n==newId&& !cd.hasDel&&tailIn K bmB bm&&nsOkIn K cd.ns&&nsIn K cd.ns "__init__"==some (some (.ref f))
  |_,_=>false)
 |_=>false
theorem ns_some{K:aa}{h:Heap}{N:Addr}{mg:Str->Option Value}{n:Str}{v:Value}(X:K.In h)(G:h.Ns N mg)(e:nsIn K N n=some (some v)):mg n=some v:=by
 obtain⟨o,es,ep,ho,hd,_,hf⟩:=G;unfold nsIn at e;split at e
 ·rename_i q
  have z:=X _ _ q;rw[ho]at z;cases z;cases hd;split at e
  ·rename_i en he
   rw[<-hf];unfold nsFind findBy;rw[<-lX,he];simpa using e
  ·split at e<;>cases e
 ·cases e
theorem oB{K:aa}{h:Heap}{C f:Addr}{bmB:List Value}{newId:String}(kin:K.In h)(q:jW K C f bmB newId=true):
  ∃nm qn N bs bm hd sn sub ab col dd k0 k1 k2 k3 k5 mN,h.get? C=some (fC nm qn C N bs bm hd sn sub ab col dd k0 k1 k2 k3 k5 newId)/\h.Ns N mN/\mN "__init__"=some (.ref f)/\OwnTail h bmB bm:=by
 unfold jW at q;split at q
 case h_2=>cases q
 rename_i od cd sl ho;split at q
 case h_2=>cases q
 rename_i C' bm j0 j1 j2 j3 n j5 hm hs;rw[ae,ae,ae,ae,ae,beq_iff_eq,beq_iff_eq,beq_iff_eq]at q;obtain⟨⟨⟨⟨⟨e1,e2⟩,e3⟩,e4⟩,e5⟩,e6⟩:=q;subst e1;subst e2;obtain⟨c1,c2,c3,c4,c5,c6,c7,c8,c9,c10,c11⟩:=cd;have e7:c3=.ref C'::bm:=hm;have e8:c11=false:=by simpa using e3
 have e9:sl= #[j0,j1,j2,j3,some (.builtin n),j5]:=by
  apply Array.ext'
  exact hs
 subst e7;subst e8;subst e9;exact⟨_,_,_,_,_,_,_,_,_,_,_,_,_,_,_,_,_,kin _ _ ho,.of_isNs (isNs_of_in kin e5),ns_some kin (.of_isNs (isNs_of_in kin e5)) e6,tail_of_in kin e4⟩
structure MkX(K:aa)(C f:Addr):Prop where
 ex:jW K C f bmV "ValueError.__new__"=true
 fn:∃o,K.lookup f=some o/\o.cls=.type "function"
 kp:keepIn K (.ref C)=true
section
variable {X:Cx}{CX:CXT}{C f:Addr}{k:Nat}{fd:dh}{ps:List Str}{sp:Sp}{ds:List Value}{dvs:List V}{E:XK}
theorem pW{pins:List (Addr×Obj)}{σ:St}{H:Hp}{s:Shared}{Q:VK}{us:List Value}{vs:List V}(M:MkX X.K C f)(F:gy X.prog X.w X.K X.mg X.base CX k f fd ps sp)(hr:fK (k+1) X.A)(hb:Binds X.K fd ps ds)(hd:bp dvs ds)
  (hx:∀(H':Hp)(s1:Shared)(e:Value)(s':Shared),Inv X pins σ H' s1->CX X.stack H' s1 E e s'->X.xe e s')(I:Inv X pins σ H s)(r:bp vs us)(hl0:vs.length<=sizeLine)
  (h:∀x,s.heap.objs.size<=x->H x=none->sp (.ref x::(vs++dvs)) (upd H x (exO x C none)) (fun v H2=>v=.non/\Q (.ref x) H2) E):
  wpAny (model X.prog X.w) X.A (call (.ref C) us) (EP X pins σ Q) X.xe s:=by
 have hq:=h (s.heap.objs.size+1) (gr _) (I.hok.fresh (gr _));obtain⟨nm,qn,N,bs,bm,hd',sn,sub,ab,col,dd,k0,k1,k2,k3,k5,mN,hC,hN,hi,T⟩:=oB (bmB:=bmV) I.kIn M.ex;obtain⟨oI,hf,hfc⟩:=M.fn;have I2:Inv X pins σ (upd H (s.heap.objs.size+1) (exO (s.heap.objs.size+1) C none)) {s with heap:=tq s.heap C us}:=by
  refine I.laid (t':=s.toks) (fun b o e=>gb e) (gr _) ?_;exact⟨⟨_,rj⟩,⟨_,rj⟩,fun h1 h2 ⟨x0,z⟩ k=>⟨x0,k _ z⟩⟩
 have r2:bp (V.ref (s.heap.objs.size+1)::(vs++dvs)) (bg (s.heap.objs.size+1)::(us++ds)):=.cons rfl (r.append hd);have hl:(bg (s.heap.objs.size+1)::us++ds).length=ps.length:=by
  have e:=r2.length;rw[F.len _ _ _ _ hq]at e;exact e.symm
 obtain⟨hh,gg,dr,tk,os⟩:=s;refine yd (fI:=f) gC T hC hN hi (I.kIn _ _ hf) hfc (by rw[<-r.length];exact hl0) ?_;refine fv (fX (F.run _ X.stack _ _ ⟨bg (hh.objs.size+1)::us,[]⟩ (bg (hh.objs.size+1)::(us++ds)) _ _ E (hr.make C us []) (I2.env0.make C us []) (hb _ (bg (hh.objs.size+1)::us) I2.kIn hl) r2 hq) fun r s' hq'=>?_);cases r with
 |error e=>exact hx _ _ e s' I2 hq'
 |ok fl=>
  cases fl with
  |ret u=>
   obtain⟨v,H',I3,rv,ev,q3⟩:=I2.after hq';subst ev;exact⟨rv,⟨V.ref (hh.objs.size+1),H',I3,rfl,q3⟩⟩
  |next =>exact dM hq'
  |brk=>exact dM hq'
  |cont=>exact dM hq'
end
end L2
namespace L2
open PySem PySem.Spec PySem.W PyProof.Rows PySem.Builtin PySem.Builtin.ObjectAttr
noncomputable def sX:List Value->Bool
 |.ref _::r=>sX r
 |l=>l==bmV
theorem refuseV(self:Value):refuseLoop self "__setattr__" bmV=pure ():=by kernel_rfl
theorem vU(self:Value):∀{l:List Value},sX l=true->refuseLoop self "__setattr__" l=pure ()
 |.ref c::r,e=>by
  rw[refuseLoop_ref];exact vU self e
 | [],e=>by cases e
 |.type n::r,e=>by rw[show(.type n::r:List Value)=bmV from beq_iff_eq.mp e];exact refuseV self
 |.none::r,e=>by cases e
 |.ellipsis::r,e=>by cases e
 |.notImplemented::r,e=>by cases e
 |.bool _::r,e=>by cases e
 |.int _ _::r,e=>by cases e
 |.float _ _::r,e=>by cases e
 |.str _ _::r,e=>by cases e
 |.bytes _ _::r,e=>by cases e
 |.builtin _::r,e=>by cases e
theorem pY:∀{l:List Value},sX l=true->l.contains (.type "object")=true
 |.ref c::r,e=>by rw[List.contains_cons,pY (l:=r) e,Bool.or_true]
 | [],e=>by cases e
 |.type n::r,e=>by rw[show(.type n::r:List Value)=bmV from beq_iff_eq.mp e];decide
 |.none::r,e=>by cases e
 |.ellipsis::r,e=>by cases e
 |.notImplemented::r,e=>by cases e
 |.bool _::r,e=>by cases e
 |.int _ _::r,e=>by cases e
 |.float _ _::r,e=>by cases e
 |.str _ _::r,e=>by cases e
 |.bytes _ _::r,e=>by cases e
 |.builtin _::r,e=>by cases e
section
variable {prog:Program}{w:World}{K:aa}{A:Around}{R:Result->Shared->Prop}{s:Shared}{x C:Addr}
theorem sY{ox:Obj}{od:Option Obj}{name:Str}{tk:Tok}{v:Value}(X:K.In s.heap)(I:InstAt s.heap x ox C od)(hp:(clsIn K C).any (fun cd=>sX cd.mro)=true)(ht:takerIn K C name=some none)
  (h:∀b,wpAny (model prog w) A.in1 (storeInOwnDict (.ref x) (.ref C) (.str name tk) name v b)
   (fun fin s'=>match fin with |.done f=>R (.ok f) s'|.again c'=>c'.quiet=true/\ic (model prog w) A c' R s') (fun e s'=>R (.error e) s') s):
  ic (model prog w) A (.call (.builtin "object.__setattr__") ⟨[.ref x,.str name tk,v],[]⟩) R s:=by
 have SF:=PySem.F.store_object;obtain⟨cd,hc,ho⟩:=any_some hp;have ne:cd.mro.isEmpty=false:=by cases q:cd.mro with |nil=>rw[q]at ho;cases ho|cons _ _=>rfl
 have sub:Looks (model prog w) s.heap (isInstance (.ref x) (.type "object")) true:=I.type.andThen (looks_mroIn X (by unfold mroIn;rw[hc,dc,if_neg (by rw[ne];decide),pY ho]));refine eh SF.slot.plain SF.entry (@check_slot (model prog w) _ _ s "object.__setattr__" "object" "__setattr__" (.ref x) [.str name tk,v] [] _ SF.kind SF.split sub (SF.args (.ref x) (.str name tk) v) ?_);obtain⟨attr,ha,hr⟩:=Option.bind_eq_some_iff.mp ht;have hm:Looks (model prog w) s.heap (mroOf (.ref C)) cd.mro:=(looks_clsIn X hc).andThen .now;have L3:Looks (model prog w) s.heap (storeTaker? attr) none:=by
  cases attr with
  |none=>exact .now
  |some a=>
   obtain⟨b,hb,q⟩:=eT.mp hr;refine(looks_takesIn X hb).andThen ?_;cases b
   ·exact .now
   ·cases q
 rw[osa_eq,refuse_eq];refine af (af (I.type.here (af (hm.here ?_))));rw[vU _ ho];refine aj (af (I.type.here (af ((kX X ha).here (af (L3.here ?_))))));exact h _
end
section
variable {prog:Program}{w:World}{K:aa}{A:Around}{E:Value->Shared->Prop}{s:Shared}{e C:Addr}{name:Str}{v:Value}{vs:Array Value}{Q:Unit->Shared->Prop}
structure StX(K:aa)(C:Addr)(name:Str):Prop where
 hs:findIn K (.ref C) "__setattr__"=some (some (.builtin "object.__setattr__"))
 hp:(clsIn K C).any (fun cd=>sX cd.mro)=true
 ht:takerIn K C name=some none
 hd:(clsIn K C).any (·.hasDict)=true
noncomputable abbrev ir(C:Addr)(d:Option Addr)(vs:Array Value):Obj:={cls:=.ref C,dict:=d,data:=.fields vs}
theorem AB{h:Heap}(he:h.get? e=some (ir C none vs)):InstAt h e (ir C none vs) C none:=⟨he,rfl,rfl,trivial⟩
theorem AA{h:Heap}{d:Addr}{o:Obj}(he:h.get? e=some (ir C (some d) vs))(hd:h.get? d=some o):InstAt h e (ir C (some d) vs) C (some o):=⟨he,rfl,rfl,hd⟩
theorem uU(X:K.In s.heap)(S:StX K C name)(he:s.heap.get? e=some (ir C none vs))
  (h:∀h',h'.get? e=some (ir C (some s.heap.objs.size) vs)->h'.Ns1 s.heap.objs.size (fun y=>if y=name then some v else none)->(∀b o,b≠e->s.heap.get? b=some o->h'.get? b=some o)->Q () {s with heap:=h',toks:=s.toks+2}):
  wpAny (model prog w) A (setAttr (.ref e) name v) Q E s:=by
 have I:=AB he;refine set_plain X I S.hs (sY (s:={s with toks:=s.toks+1}) X I S.hp S.ht fun b=>?_);obtain⟨cd,hc,hd'⟩:=any_some S.hd;refine af (aj (af (af (ym he (af (r8 (s:={s with toks:=s.toks+1}) (wX X hc) ?_))))));rw[hd'];show wpAny _ _ (alloc {cls:=.type "dict",data:=.dict #[]}>>=_) _ _ _;have he1:(s.heap.push {cls:=.type "dict",data:=.dict #[]}).get? e=some (ir C none vs):=ai _ he;have hlt:=ay he;refine af (wpAny_alloc (af (wpAny_update he1 ?_)));show wpAny _ _ (pure (some s.heap.objs.size)) _ _ _;refine aj ?_;show wpAny _ _ (pure ()>>=_) _ _ _;refine af (aj (af ?_));have hne:s.heap.objs.size≠e:=jA hlt;have hd0:((s.heap.push {cls:=.type "dict",data:=.dict #[]}).update e fun o=>{o with dict:=some s.heap.objs.size}).get? s.heap.objs.size=some {cls:=.type "dict",data:=.dict #[]}:=by
  rw[aS _ _ (bO hne)];exact aO _ rfl
 have hn0:((s.heap.push {cls:=.type "dict",data:=.dict #[]}).update e fun o=>{o with dict:=some s.heap.objs.size}).Ns1 s.heap.objs.size (fun _=>none):=
  ⟨_,#[],_,hd0,rfl,fun x hx=>by simp at hx,fZ,fun y=>rfl⟩
 have hw:gA (fun _=>none:Str->Option Value) []:=gA.nil;refine wpAny_nsSet1 hn0 fun h' hn2 hs2=>?_;obtain⟨oD,esD,epD,hoD,hdD,hcD⟩:=hn2.count (uk name v hw);refine af (wpAny_lookBehind hoD (by rw[hdD];exact pastItsLine_dict (au hcD (by show 1<=sizeLine+1;decide))) ?_);refine aj (h _ ?_ hn2 fun b o hb q=>?_)
 ·rw[hs2.2 _ (bO hne),cQ _ he1 rfl]
 ·have hbs:b≠s.heap.objs.size:=aW (ay q)
  rw[hs2.2 _ hbs,aS _ _ (bO hb)];exact ai _ q
theorem xp{d:Addr}{mA:Str->Option Value}{ns:List Str}(X:K.In s.heap)(S:StX K C name)(he:s.heap.get? e=some (ir C (some d) vs))(hn:s.heap.Ns1 d mA)(hw:gA mA ns)(hsz:ns.length<sizeLine)
  (h:∀h',h'.Ns1 d (fun y=>if y=name then some v else mA y)->gJ d s.heap h'->Q () {s with heap:=h',toks:=s.toks+2}):
  wpAny (model prog w) A (setAttr (.ref e) name v) Q E s:=by
 obtain⟨o,es,ep,ho,hn'⟩:=id hn;have I:=AA he ho;refine set_plain X I S.hs (sY (s:={s with toks:=s.toks+1}) X I S.hp S.ht fun b=>?_);obtain⟨cd,hc,hd'⟩:=any_some S.hd;refine af (aj (af (af (ym he (af (r8 (s:={s with toks:=s.toks+1}) (wX X hc) ?_))))));rw[hd'];show wpAny _ _ (pure (some d)) _ _ _;refine aj ?_;show wpAny _ _ (pure ()>>=_) _ _ _;refine af (aj (af ?_));refine wpAny_nsSet1 (s:={s with toks:=s.toks+1}) hn fun h' hn2 hs2=>?_;obtain⟨oD,esD,epD,hoD,hdD,hcD⟩:=hn2.count (uk name v hw);refine af (wpAny_lookBehind hoD (by rw[hdD];exact pastItsLine_dict (au hcD (by rw[aY];omega))) ?_);exact aj (h _ hn2 hs2)
end
end L2
namespace L2
open PySem PySem.Spec PySem.W PyProof.Rows
section
variable {X:Cx}{pins:List (Addr×Obj)}{σ:St}{H:Hp}{s:Shared}{A:Around}{E:Value->Shared->Prop}{a C:Addr}{f:Str}
theorem xd_ok{P:Program}{w:World}{h:Heap}{d:Addr}{fs:List (Str×V)}(H:Hp){mA:Str->Option Value}(n:h.Ns1 d mA)(r:∀f,mI (fs.lookup f) (mA f))(wi:gA mA (fs.map (·.1))):cW P w H h d (xdO d fs):=
 ⟨⟨mA,n,r,wi⟩,let⟨o,_,_,e,_⟩:=n;⟨o,e⟩,fun h1 h2 ⟨m,n,r⟩ k=>⟨m,n.at k,r⟩⟩
theorem ex_ok{P:Program}{w:World}{h:Heap}{e:Addr}{d:Option Addr}{x0:Addr}(H:Hp)(q:h.get? e=some (ir C d #[.ref x0,.none,.none,.none,.bool false,.none])):cW P w H h e (exO e C d):=
 ⟨⟨x0,q⟩,⟨_,q⟩,fun h1 h2 ⟨x,z⟩ k=>⟨x,k _ z⟩⟩
theorem y4{y:V}{u:Value}{Q:Unit->Shared->Prop}(I:Inv X pins σ H s)(e:H a=some (exO a C none))(S:StX X.K C f)(ry:RelV y u)
  (h:∀s' dd,H dd=none->Inv X pins σ (upd (upd H dd (xdO dd [(f,y)])) a (exO a C (some dd))) s'->Q () s'):wpAny (model X.prog X.w) A (setAttr (.ref a) f u) Q E s:=by
 obtain⟨⟨x0,he⟩,_⟩:=I.hok a _ e;refine uU I.kIn S he fun h' h1 h2 kp=>h _ s.heap.objs.size (I.hok.fresh (ao _)) ?_;obtain⟨od,es,ep,ed,r⟩:=id h2;have hfr:H s.heap.objs.size=none:=I.hok.fresh (ao _);have hne:s.heap.objs.size≠a:=jA (ay he);have ep1:(s.heap.push od).get? s.heap.objs.size=some od:=aO _ (Obj.isFreed_of_dict r.1);have n1:(s.heap.push od).Ns1 s.heap.objs.size (fun y=>if y=f then some u else none):=⟨od,es,ep,ep1,r⟩;have I1:Inv X pins σ (upd H s.heap.objs.size (xdO s.heap.objs.size [(f,y)])) {s with heap:=s.heap.push od,toks:=s.toks}:=by
  refine I.laid (t':=s.toks) (fun b o q=>ai _ q) (ao _) (xd_ok _ n1 (fun g=>?_) fun g hg=>?_)
  ·by_cases q:g=f
   ·subst q
    simp[bD];exact ry
   ·have :(g==f)=false:=by simpa using q
    simp[bD,this,q];exact True.intro
  ·by_cases q:g=f
   ·simp[q]
   ·exact absurd (if_neg q) hg
 have e1:upd H s.heap.objs.size (xdO s.heap.objs.size [(f,y)]) a=some (exO a C none):=by rw[aL (bO hne)];exact e
 refine I1.write (x:=a) (e:=a) (t':=s.toks+2) (by rw[e1];exact True.intro) (.inl rfl) (fun b o hb q=>?_) ⟨_,h1⟩ (ex_ok _ h1);by_cases hbs:b=s.heap.objs.size
 ·subst hbs
  have q:(s.heap.push od).get? s.heap.objs.size=some o:=q;rw[ep1]at q;cases q;exact ed
 ·refine kp b o hb ?_
  have q:(s.heap.push od).get? b=some o:=q;rw[Heap.get?_push_ne _ _ _ hbs]at q;exact q
theorem y3{y:V}{u:Value}{dd:Addr}{fs:List (Str×V)}{Q:Unit->Shared->Prop}(I:Inv X pins σ H s)(e:H a=some (exO a C (some dd)))(ed:H dd=some (xdO dd fs))(hl:fs.length<1000)(S:StX X.K C f)(ry:RelV y u)
  (h:∀s',Inv X pins σ (upd H dd (xdO dd (mD f y fs))) s'->Q () s'):wpAny (model X.prog X.w) A (setAttr (.ref a) f u) Q E s:=by
 obtain⟨⟨x0,he⟩,_⟩:=I.hok a _ e;obtain⟨⟨mA,hn,r,wi⟩,_⟩:=I.hok dd _ ed;refine xp I.kIn S he hn wi (by rw[av,sizeLine_eq];omega) fun h' n2 sb=>h _ ?_;have hd:∃o,h'.get? dd=some o:=let⟨o,_,_,e',_⟩:=n2;⟨o,e'⟩;refine I.write (x:=dd) (e:=dd) (t':=s.toks+2) (by rw[ed];exact True.intro) (.inl rfl) (fun b o hb q=>(sb.2 b hb).trans q) hd (xd_ok _ n2 (fun g=>?_) fun g hg=>?_)
 ·show mI ((mD f y fs).lookup g) (if g=f then some u else mA g)
  rw[l8];by_cases q:g=f
  ·rw[if_pos q,if_pos q];exact ry
  ·rw[if_neg q,if_neg q];exact r g
 ·by_cases q:g=f
  ·rw[q];exact(lG f y fs).1
  ·refine(lG f y fs).2 g (wi g fun z=>hg ?_)
   show(if g=f then some u else mA g)=none;rw[if_neg q];exact z
end
noncomputable def sFldX(K:aa)(ta tv:TE)(f:Str):TS:=fun D σ H=>tv σ H fun y H1=>ta σ H1 fun x H2=>∃a C,x=.ref a/\StX K C f/\
 ((H2 a=some (exO a C none)/\∀dd,H2 dd=none->D.nx σ (upd (upd H2 dd (xdO dd [(f,y)])) a (exO a C (some dd))))\/
  ∃dd fs,H2 a=some (exO a C (some dd))/\H2 dd=some (xdO dd fs)/\fs.length<1000/\D.nx σ (upd H2 dd (xdO dd (mD f y fs))))
section
variable {X:Cx}{o value:Expr}{f:Str}{pos pos':Pos}{ta tv:TE}
theorem ps_fldX(ha:PE X o ta)(hv:PE X value tv)(hs:kb value (some (.Attribute o f pos')) pos.line X.env=pure false):PS X (.Assign [.Attribute o f pos'] value pos) (sFldX X.K ta tv f):=by
 intro pins s σ H D I h;refine plainObj_wpAny_Assign_Attribute (thn (hv pins s σ H _ I h) fun u s1 ⟨y,H1,I1,ry,q⟩=>thn (ha pins s1 σ H1 _ I1 q) fun ov s2 ⟨x,H2,I2,rx,a,C,ex,S,q2⟩=>?_) hs;subst ex;obtain rfl:ov=bg a:=rx;rcases q2 with⟨e,k⟩ |⟨dd,fs,e,ed,hl,k⟩
 ·exact y4 I2 e S ry fun s3 dd hdd I3=>⟨σ,_,I3,k dd hdd⟩
 ·exact y3 I2 e ed hl S ry fun s3 I3=>⟨σ,_,I3,k⟩
end
structure BsX(K:aa)(B:Addr):Prop where
 ga:specialIn K (.ref B) "__getattribute__"=some (some (.builtin "type.__getattribute__"))
 rd:readsIn K B (.type "type")=true
 fd:findCls K (.ref B) (.type "type") "__init__"=some (.val (.builtin "ValueError.__init__"))
noncomputable def tBase(K:aa)(B:Addr)(t:TA):TE:=fun σ H Q=>BsX K B/\t σ H fun vs H1=>∃a C f us,vs=.ref a::us/\H1 a=some (exO a C none)/\us.length<=sizeLine/\jW K C f bmV "ValueError.__new__"=true/\Q .non H1
section
variable {X:Cx}{x:Str}{B:Addr}{e:Expr}{es:List Expr}{t:TA}{np apos pos:Pos}
theorem zu{pins:List (Addr×Obj)}{σ:St}{H:Hp}{s:Shared}{Q:VK}{a C f:Addr}{us:List Value}(I:Inv X pins σ H s)(e:H a=some (exO a C none))(hl:us.length<=sizeLine)(hx:jW X.K C f bmV "ValueError.__new__"=true)(q:Q .non H):
  wpAny (model X.prog X.w) X.A (call (.builtin "ValueError.__init__") (.ref a::us)) (EP X pins σ Q) X.xe s:=by
 obtain⟨⟨x0,he⟩,_⟩:=I.hok a _ e;obtain⟨nm,qn,N,bs,bm,hd',sn,sub,ab,col,dd,k0,k1,k2,k3,k5,mN,hC,hN,hi,T⟩:=oB (bmB:=bmV) I.kIn hx;obtain⟨hh,gg,dr,tk,os⟩:=s;refine yi gC T hC he hl fun h' kp ⟨b,h1⟩ hsz=>?_;have hu:upd H a (exO a C none)=H:=by
  funext c
  by_cases z:c=a
  ·rw[z,ak,e]
  ·rw[aL z]
 have I2:Inv X pins σ (upd H a (exO a C none)) ⟨h',gg,dr,tk,os⟩:=I.write (x:=a) (e:=a) (t':=tk) (by rw[e];exact True.intro) (.inl rfl) (fun b o hb q=>kp b o hb q) ⟨_,h1⟩ (ex_ok _ h1);rw[hu]at I2;exact⟨.non,H,I2,rfl,q⟩
theorem Ac{prog:Program}{w:World}{A:Around}{E:Value->Shared->Prop}{env:Env}{o:Expr}{name:Str}{args:List Expr}{s:Shared}{Q:Value->Shared->Prop}
  (hbase:pb o name env (eval o env)=eval o env)
  (hfew:((backTo pos (aB args env)).all (fun x=> !x.1)&&(rX pos (ju [] env)).all (fun x=>x.1.isSome)
   &&decide (args.length+([]:List Keyword).length+(if([]:List Keyword).isEmpty then 0 else 1)<30))=true)
  (hline:(apos.endLine==pos.line)=true)
  (h:wpAny (model prog w) A (eval o env) (fun ov s₁=>∀pl,wpAny (model prog w) A (getMethod ov name pl) (fun fx s₂=>wpAny (model prog w) A (callWith pos fx.1 fx.2 (backTo pos (aB args env)) (rX pos (ju [] env))) Q E s₂) E s₁) E s):
  wpAny (model prog w) A (eval (.Call (.Attribute o name apos) args [] pos) env) Q E s:=by
 rw[arm_eval_Call,hbase];refine af (bM h (fun ov s₁ h₁=>?_) fun _ _ e=>e);refine af (dN ?_);have hform:methodCallForm (args.length+([]:List Keyword).length) (backTo pos (aB args env)) (rX pos (ju [] env))=true:=hfew;have hpos:methodCallPos true o env apos pos=pure pos:=by unfold methodCallPos;simp[hline]
 unfold methodCall;rw[hform];refine af (bN (bM (h₁ _) (fun fx s₂ h₂=>?_) fun _ _ e=>e));exact af (wpAny_of_eq hpos h₂)
theorem pe_base(hg:Gl X x)(hm:X.mg x=some (.ref B))(ha:PA X (e::es) t)(hdb:(x==("__debug__":Str))=false)(hst:aB (e::es) X.env=(false,eval e X.env)::aB es X.env)(hpl:(backTo pos (aB es X.env)).any (·.1)=false)
  (hfew:((backTo pos (aB (e::es) X.env)).all (fun x=> !x.1)&&(rX pos (ju [] X.env)).all (fun x=>x.1.isSome)
   &&decide ((e::es).length+([]:List Keyword).length+(if([]:List Keyword).isEmpty then 0 else 1)<30))=true)
  (hline:(apos.endLine==pos.line)=true):
  PE X (.Call (.Attribute (.Name x np) "__init__" apos) (e::es) [] pos) (tBase X.K B t):=by
 intro pins s σ H Q I h;obtain⟨b,h⟩:=h;refine Ac rfl hfew hline (gD I hg hm (fun pl=>?_) hdb);refine PySem.W.method_cls I.kIn b.ga (PySem.W.cls_value I.kIn b.rd b.fd (by decide+kernel) ?_);refine kg (thn (ha pos pins _ σ H _ (I.tok (s.toks+1)) h) fun us s1 z=>?_) hst hpl;obtain⟨vs,H1,I1,r1,a,C,f,ws,e1,ea,hl,hx,q⟩:=z;subst e1;cases r1 with
 |cons r0 r1=>
  cases r0;exact zu I1 ea (by rw[<-r1.length];exact hl) hx q
end
noncomputable def del(H:Hp)(a:Addr):Hp:=fun b=>if b=a then none else H b
theorem gj{H:Hp}{a:Addr}:del H a a=none:=if_pos rfl
theorem gk{H:Hp}{a b:Addr}(h:b≠a):del H a b=H b:=if_neg h
section
variable {M:Model}{A:Around}{E:Value->Shared->Prop}{env:Env}{nm q:Str}{C N:Addr}{bs bm:List Value}{hdct:Bool}{sn:List Str}{sub:List Value}{ab:Bool}{col:Option Bool}{dd:Option Addr}{k0 k1 k2 k3 k5:Option Value}{newId:String}
theorem uZ{s:Shared}{x:Sem Value}{Q:Flow->Shared->Prop}(hbase:bm.contains (.type "BaseException")=true)(hh:A.handled=none)
  (h:wpAny M A x (fun v s₁=>∃e t dx,v=.ref e/\s₁.heap.get? C=some (fC nm q C N bs bm hdct sn sub ab col dd k0 k1 k2 k3 k5 newId)/\
   s₁.heap.get? e=some (ir C dx #[.ref t,.none,.none,.none,.bool false,.none])/\E (.ref e) s₁) E s):
  wpAny M A (raiseStmt env (some x) none) Q E s:=by
 have hcB:(bg C::bm).contains (.type "BaseException")=true:=by rw[List.contains_cons,hbase,Bool.or_true]
 unfold raiseStmt;refine af (bM h (fun v s₁ h₁=>?_) fun _ _ x=>x);obtain⟨e,t,dx,rfl,hC,he,hE⟩:=h₁;obtain⟨hp,g,d,tk,os⟩:=s₁;repeat(first |with_reducible refine fV he ?_ |with_reducible refine fV hC ?_ | (with_reducible refine wpAny_isSubtype_exc hC ?_;rw[hcB]) |wp_step)
 exact wpAny_raiseNew_none hh hE
end
section
variable {X:Cx}{pins:List (Addr×Obj)}{σ:St}{H:Hp}{s:Shared}
theorem Inv.del{a:Addr}{φ:Heap->Prop}(I:Inv X pins σ H s)(e:H a=some (.ext φ)):Inv X pins σ (L2.del H a) s:=by
 have ne:∀{b:Addr}{o:HO},H b=some o->(∀ψ,o≠.ext ψ)->b≠a:=fun{b o} q n z=>by rw[z,e]at q;exact n φ (aX q).symm
 refine⟨I.ok,I.os,I.bare,⟨I.base.keep,I.base.slot,fun b o q n hb=>?_,I.base.there,fun b xs q=>?_,fun b o u q=>?_,fun b ps q=>?_⟩,I.loc,I.cell,?_,fun x c' q=>?_,fun p q=>?_,fun b u q=>?_,I.len⟩
 ·by_cases z:b=a
  ·rw[z];exact gj
  ·rw[gk z];exact I.base.free b o q n hb
 ·have r:=I.base.tups b xs q
  rw[gk (ne r fun _ z=>by cases z)];exact r
 ·have r:=I.base.frzs b o u q
  rw[gk (ne r fun _ z=>by cases z)];exact r
 ·obtain⟨more,r⟩:=I.base.tbls b ps q
  exact⟨more,by rw[gk (ne r fun _ z=>by cases z)];exact r⟩
 ·by_cases z:X.env.locals=a
  ·rw[z];exact gj
  ·rw[gk z];exact I.free
 ·by_cases z:c'=a
  ·rw[z];exact gj
  ·rw[gk z];exact I.freeC x c' q
 ·obtain⟨q1,n,r⟩:=I.pin p q
  refine⟨q1,?_,r⟩;by_cases z:p.1=a
  ·rw[z];exact gj
  ·rw[gk z];exact n
 ·by_cases hb:b=a
  ·rw[hb,gj]at q
   cases q
  ·rw[gk hb]at q
   exact(I.hok b u q).mC (fun _ _ _ r=>r) (fun c' r=>by rw[gk (ne r fun _ z=>by cases z)];exact r) fun c' xs r=>by rw[gk (ne r fun _ z=>by cases z)];exact r
structure NewX(X:Cx)(pins:List (Addr×Obj))(H:Hp)(s:Shared)(a C:Addr)(d:Option Addr):Prop where
 at_:∃x0,s.heap.get? a=some (ir C d #[.ref x0,.none,.none,.none,.bool false,.none])
 new:X.s₀.heap.get? a=none
 un:H a=none
 pins:∀p∈X.pn++pins,p.1≠a
theorem pZ{M:Model}{E:Value->Shared->Prop}{Q:Unit->Shared->Prop}{a C:Addr}{d:Option Addr}(I:Inv X pins σ H s)(stk:X.stack=X.env::X.outer)(hf:X.env.frame=some X.env.locals)(n:NewX X pins H s a C d)
  (h:∀s2,Inv X pins σ H s2->Fly X.s₀.heap s2.heap H (X.pn++pins) a (.ref C) d->Q () s2):
  wpAny M X.A (iB (.ref a) X.env) (fun _ s'=>wpAny M X.A (ug (.ref a) none) Q E s') E s:=by
 obtain⟨x0,ht⟩:=n.at_;unfold iB;simp only[hf];refine af (fA (x:=.none) ht rfl (by rfl) ?_);rw[if_neg (show ¬(cL != cL)=true by simp)];exact enter I stk hf ht rfl (by simp) n.new n.un n.pins h
noncomputable def vG(X:Cx)(E:XS):Prop:=∀(pins:List (Addr×Obj))(σ:St)(H:Hp)(s:Shared)(a C:Addr)(d:Option Addr),Inv X pins σ H s->NewX X pins H s a C d->E σ (.ref C) d H->X.xe (.ref a) s
theorem vC{P:Program}{w:World}{K:aa}{mg:Str->Option Value}{base:Heap}{N:List Str}{qual:Str}{scope:Scope}{f:Addr}{cd:Value}{A:Around}{outer:List Env}{s:Shared}{H:Hp}{E:XK}:
  vG (rF (CXx P w) P w K mg base N qual scope f cd A outer s H E) (fun _=>E):=by
 intro pins σ H1 s1 a C d I n q;show wpAny _ _ (leaving _ _) _ _ _;unfold leaving;refine af (pZ I rfl rfl n fun s2 I2 F2=>?_);obtain⟨⟨T,oe,vs,oT,ts,h1,h2,h3,h4,h5,h6,h7,h8,h9,h10,h11,_⟩,b1,b2,_⟩:=F2;exact⟨a,.ref C,d,H1,rfl,I2.os,I2.bare,I2.base,I2.hok,⟨⟨T,oe,vs,oT,ts,h1,h2,h3,h4,h5,h6,h7,h8,h9,h10,h11,fun _ z=>nomatch z⟩,b1,b2,fun _ z=>nomatch z⟩,q⟩
theorem xj{x n:Str}{C:Addr}{i:Nat}{b₀:Stmt}{suite:List Stmt}{np hpos:Pos}{ts:TS}{D:Ends}(O:uc X x n C i (b₀::suite) ts){pins':List (Addr×Obj)}{a Cx':Addr}{d:Option Addr}(ok:X.Ok)
  (I:Inv (X.re X.A X.calm (X.pn++pins) (f9 X pins D [.ExceptHandler (some (.Name x np)) (some n) (b₀::suite) hpos])) pins' σ H s)(m:NewX (X.re X.A X.calm (X.pn++pins) (f9 X pins D [.ExceptHandler (some (.Name x np)) (some n) (b₀::suite) hpos])) pins' H s a Cx' d)(h:lM X.K C i ts D σ (.ref Cx') d H):
  f9 X pins D [.ExceptHandler (some (.Name x np)) (some n) (b₀::suite) hpos] (.ref a) s:=by
 have J:Inv X pins σ H s:=I.yI ok fun p z=>bG _ z;exact pZ J O.stk O.fr ⟨m.at_,m.new,m.un,fun p hp=>m.pins p (bG _ hp)⟩ fun s2 I2 F2=>lN O I2 F2 h
noncomputable def zj(C:Addr)(sp:Sp)(dvs:List V)(E:XS)(t:TA):TS:=fun _ σ H=>t σ H fun vs H1=>vs.length<=sizeLine/\∀a,H1 a=none->
 sp (.ref a::(vs++dvs)) (upd H1 a (exO a C none)) (fun v H2=>v=.non/\∃d,H2 a=some (exO a C d)/\E σ (.ref C) d (del H2 a)) (E σ)
theorem xA{CX:CXT}{C f:Addr}{k:Nat}{fd:dh}{ps:List Str}{sp:Sp}{ds:List Value}{dvs:List V}{E:XS}{x:Str}{e:Expr}{es:List Expr}{t:TA}{np cpos pos:Pos}(Mk:MkX X.K C f)(F:gy X.prog X.w X.K X.mg X.base CX k f fd ps sp)(hr:fK (k+1) X.A)(hb:Binds X.K fd ps ds)(hd:bp dvs ds)
  (hx:oX CX X E)(hg:Gl X x)(hm:X.mg x=some (.ref C))(ha:PA X (e::es) t)(hc:X.calm=true)(hdb:(x==("__debug__":Str))=false)
  (hst:aB (e::es) X.env=(false,eval e X.env)::aB es X.env)(hpl:(backTo cpos (aB es X.env)).any (·.1)=false)(made:vG X E):
  PS X (.Raise (some (.Call (.Name x np) (e::es) [] cpos)) none pos) (zj C sp dvs E t):=by
 intro pins s σ H D I h;obtain⟨nm,qn,N,bs,bm,hd',sn,sub,ab,col,dd,k0,k1,k2,k3,k5,mN,hC,hN,hi,T⟩:=oB (bmB:=bmV) I.mod.kin Mk.ex;have hbase:bm.contains (.type "BaseException")=true:=T.hasType (by decide+kernel);rw[arm_exec_Raise];show wpAny _ _ (do rV pos;raiseStmt X.env (some (do let v<-eval (.Call (.Name x np) (e::es) [] cpos) X.env;rV pos;pure v)) none) _ _ s;refine af (dN (uZ (C:=C) (nm:=nm) (q:=qn) (N:=N) (bs:=bs) (bm:=bm) (hdct:=hd') (sn:=sn) (sub:=sub) (ab:=ab) (col:=col) (dd:=dd) (k0:=k0) (k1:=k1) (k2:=k2) (k3:=k3) (k5:=k5) (newId:="ValueError.__new__") hbase (I.ok.hd hc) (af (bM (Q:=fun v s1=>∃a u dx,v=.ref a/\s1.heap.get? C=some (fC nm qn C N bs bm hd' sn sub ab col dd k0 k1 k2 k3 k5 "ValueError.__new__")/\s1.heap.get? a=some (ir C dx #[.ref u,.none,.none,.none,.bool false,.none])/\X.xe (.ref a) s1) (E:=X.xe) ?_ (fun v s1 z=>af (dN (aj z))) fun _ _ z=>z))));refine cS (gD I hg hm ?_ hdb);refine gB (h₀:=X.base) I.ok.mod.kin Mk.kp (thn (ha cpos pins s σ H _ I h) fun us s1 ⟨vs,H1,I1,r,hlen,q⟩=>⟨I1.kIn,?_⟩) hst hpl;refine bM (pW (E:=E σ) (Q:=fun v H2=>∃a d,s1.heap.objs.size<=a/\v=.ref a/\H2 a=some (exO a C d)/\E σ (.ref C) d (del H2 a)) Mk F hr hb hd (fun H' s' e s'' I' z=>hx pins σ H' s' e s'' I' z) I1 r hlen (fun a hsz ha'=>?_)) (fun v s2 z=>?_) fun _ _ z=>z
 ·have e:(fun(v:V)(H2:Hp)=>v=.non/\∃d,H2 a=some (exO a C d)/\E σ (.ref C) d (del H2 a))=fun v H2=>v=.non/\∃a_1 d,s1.heap.objs.size<=a_1/\V.ref a=V.ref a_1/\H2 a_1=some (exO a_1 C d)/\E σ (.ref C) d (del H2 a_1):=by
   funext v H2
   apply propext
   constructor
   ·rintro⟨h1,d,h2,h3⟩
    exact⟨h1,a,d,hsz,rfl,h2,h3⟩
   ·rintro⟨h1,b,d,_,h4,h2,h3⟩
    cases h4;exact⟨h1,d,h2,h3⟩
  rw[<-e];exact q a ha'
 ·obtain⟨w',H2,I2,rw',a,d,hsz,rfl,ea,hE⟩:=z
  cases rw';obtain⟨⟨x0,he⟩,_⟩:=I2.hok a _ ea;refine⟨a,x0,d,rfl,I2.bk _ _ hC,he,made pins σ (del H2 a) s2 a C d (I2.del ea) ⟨⟨x0,he⟩,ki (au I1.sz hsz),gj,fun p hp=>?_⟩ hE⟩;exact aW (aQ (ay (I1.pin p hp).1) hsz)
end
noncomputable def gi(K:aa)(C:Addr)(f:Str):Bool:=
 gE K C&&findIn K (.ref C) f==some none&&(match clsIn K C with |some cd=>cd.hasDict|none=>false)
theorem oo{v:V}{u:Value}(r:RelV v u):handedIn u=true:=by
 cases v with
 |non=>cases r;rfl
 |bl b=>cases r;rfl
 |int i=>obtain⟨t,rfl⟩:=r;rfl
 |str x=>obtain⟨t,rfl⟩:=r;rfl
 |byt b=>obtain⟨t,rfl⟩:=r;rfl
 |flt b=>obtain⟨t,rfl⟩:=r;rfl
 |ref a=>cases r;rfl
 |ty n=>cases r;rfl
theorem tF{h:Heap}{d:Addr}{m:Str->Option Value}{f:Str}{u:Value}(N:h.Ns1 d m)(e:m f=some u):∃o,h.get? d=some o/\lookIn f o=some (some u):=by
 obtain⟨o,es,ep,ho,hd,_,_,hf⟩:=N;refine⟨o,ho,?_⟩;have q:=(hf f).trans e;unfold nsFind findBy at q;rw[<-lX]at q;unfold lookIn;rw[hd];dsimp only;cases hz:es.toList.find? (·.key.isStr f)with
 |none=>rw[hz]at q;cases q
 |some en=>rw[hz]at q;simpa using q
theorem mf{K:aa}{C:Addr}{f:Str}{o:Obj}{u:Value}(F:gi K C f=true)(e:lookIn f o=some (some u)):mW K C (some o) f=some (.value u):=by
 unfold gi at F;rw[ae,ae,beq_iff_eq]at F;obtain⟨⟨_,h1⟩,h2⟩:=F;cases hc:clsIn K C with
 |none=>rw[hc]at h2;cases h2
 |some cd=>
  rw[hc]at h2;unfold mW;rw[hc,dc,h1,dc];have h3:PySem.W.ownOf cd (some o) f=some (some u):=by
   unfold PySem.W.ownOf;rw[if_pos h2];exact e
  simp[h3]
section
variable {prog:Program}{w:World}{A:Around}{E:Value->Shared->Prop}{s:Shared}{K:aa}{a C:Addr}{o:Obj}{od:Option Obj}{f:Str}{u:Value}
theorem AN{tk:Tok}{R:Result->Shared->Prop}(kin:K.In s.heap)(J:InstAt s.heap a o C od)(F:oZ K C)(hf:mW K C od f=some (.value u))(h:R (.ok (.ret u)) s):
  ic (model prog w) A (.call (.builtin "BaseException.__getattribute__") ⟨[.ref a,.str f tk],[]⟩) R s:=by
 obtain⟨hh,g,d,t,os⟩:=s;have L0:=J.type (M:=model prog w);have L3:=looks_find (M:=model prog w) kin J hf;refine eh dv.ga.plain uz (oU kin J F ?_);unfold Builtin.«object.__getattribute__»;repeat(first |with_reducible refine fv ?_ |lk|wp_step)
 exact h
theorem wI{b:Bool}{Q:Value->Shared->Prop}(kin:K.In s.heap)(J:InstAt s.heap a o C od)(F:oZ K C)(hf:mW K C od f=some (.value u))(hu:handedIn u=true)(h:Q u {s with toks:=s.toks+1}):
  wpAny (model prog w) A (getAttr (.ref a) f b) Q E s:=by
 obtain⟨hh,g,d,t,os⟩:=s;have L0:=J.type (M:=model prog w);have L1:=kX (M:=model prog w) kin F.ga;have L2:=kX (M:=model prog w) kin F.hook;unfold getAttr getAttrBy;refine af (wpAny_mkText (bN (af (L0.at (af (L1.at ?_))))));show wpAny _ _ (if(uh (.ref C)&&(eu "BaseException.__getattribute__"==eu "object.__getattribute__"))=true then _ else _) _ _ _;rw[ga_ne,dQ,if_neg aP];unfold getAttrByItsOwn hookBefore;rw[if_pos (show uh (.ref C)=true from rfl)];refine af (L2.at ?_);unfold callGetattribute boundAndCalled;rw[show uh (eu "BaseException.__getattribute__")=false from rfl,dQ,if_neg aP];refine af (o9 (bN (af ?_)));rw[dv.ga.bind (.ref a)];refine aj (fv (AN (s:=⟨hh,g,d,t+1,os⟩) kin J F hf ?_));show wpAny _ _ (handedOut u) _ _ _;rw[handedOut_of hu];exact aj h
end
noncomputable def rFld(K:aa)(f:Str):V->Hp->VK->Prop:=fun x H Q=>∃a C dd fs v,x=.ref a/\H a=some (iY a (.ref C) (some dd))/\H dd=some (xdO dd fs)/\gi K C f=true/\fs.lookup f=some v/\Q v H
section
variable {X:Cx}{pins:List (Addr×Obj)}{σ:St}{H:Hp}{s:Shared}
theorem get_fld{x:V}{u:Value}{f:Str}{b:Bool}{Q:VK}(I:Inv X pins σ H s)(r:RelV x u)(h:rFld X.K f x H Q):wpAny (model X.prog X.w) X.A (getAttr u f b) (EP X pins σ Q) X.xe s:=by
 obtain⟨a,C,dd,fs,v,rfl,ea,ed,F,hl,q⟩:=h;obtain rfl:u=.ref a:=r;obtain⟨⟨o,e1,e2,e3,e4⟩,_⟩:=I.hok a _ ea;obtain⟨⟨mA,N,rf,_⟩,_⟩:=I.hok dd _ ed;have rv:=rf f;rw[hl]at rv;cases hm:mA f with
 |none=>rw[hm]at rv;exact rv.elim
 |some y=>
  rw[hm]at rv;obtain⟨od,ho,hk⟩:=tF N hm;have F':gE X.K C=true:=by
   unfold gi at F;rw[ae,ae]at F;exact F.1.1
  exact wI I.kIn (od:=some od) ⟨e1,e2,e4,by rw[e3];exact ho⟩ (oE F') (mf F hk) (oo rv) ⟨v,H,I.tok _,rv,q⟩
theorem wg{n f:Str}{np pos:Pos}{t:TE}(hn:PE X (.Name n np) t):PE X (.Attribute (.Name n np) f pos) (fun σ H Q=>t σ H fun x H1=>rFld X.K f x H1 Q):=by
 intro pins s σ H Q I h;refine Attribute_name (thn (hn pins s σ H _ I h) fun u s1 ⟨x,H1,I1,r,q⟩=>?_);exact get_fld I1 r q
theorem kG:eK X (.builtin "isinstance") (fun xs H Q=>∃a C d y cv b,xs=[.ref a,y]/\H a=some (iY a (.ref C) d)/\(∀dd,d=some dd->∃fs,H dd=some (xdO dd fs))/\gE X.K C=true/\((∃T,y=.ty T/\cv=jc T)\/(∃D,y=.ref D/\cv=bg D))/\kitOne X.K (.ref C) cv=some b/\Q (.bl b) H):=by
 intro pins s σ H xs us Q I rv h;obtain⟨a,C,d,y,cv,b,rfl,ea,hd,ok,hy,e,q⟩:=h;obtain⟨u,c,rfl,ru,rc⟩:=rv.two;obtain rfl:u=bg a:=ru;have hc:c=cv:=by
  rcases hy with⟨T,rfl,rfl⟩ |⟨D,rfl,rfl⟩
  ·cases rc;rfl
  ·cases rc;rfl
 subst hc;exact kia_one (Ak (oE ok)) I.kIn (vq I.hok ea fun dd z=>by obtain⟨fs,k⟩:=hd dd z;exact⟨_,k⟩) e (fun z=>nomatch z) fun tk=>⟨.bl b,H,I.tok tk,rfl,q⟩
end
noncomputable def sE(ta tb:TE)(i:Nat)(c d:Str)(tr:TA):TA:=fun σ H Q=>ta σ H fun x H1=>tb σ H1 fun y H2=>∃u v z:Str,x=.str u/\y=.str v/\(1<=u.length/\1<=v.length/\u.length+v.length<=sizeLine/\z.length<=1000)/\σ[i]? =some (some (.str z))/\
 tr σ H2 fun xs H3=>Q (.str (u++v)::.str (gq z c d)::xs) H3
section
variable {X:Cx}{a b:Expr}{es:List Expr}{ta tb:TE}{tr:TA}{i:Nat}{x c d:Str}{p1 np apos cpos p2 p3:Pos}{j1 j2:Nat}
theorem wo(ha:PE X a ta)(hb:PE X b tb)(hN:X.N[i]? =some x)(hv:Vis X.env.scope x)(hd:(x==("__debug__":Str))=false)(hcd:(x==("__classdict__":Str))=false)(hc:(c==d)=false)(hl:d.length<=14)(hline:(apos.endLine==cpos.line)=true)(hr:PA X es tr):
  PA X (.BinOp a .Add b p1::.Call (.Attribute (.Name x np) "replace" apos) [.Constant (.str c) j1 p2,.Constant (.str d) j2 p3] [] cpos::es) (sE ta tb i c d tr):=by
 intro pos pins s σ H Q I h;show wpAny _ _ (spliced ((false,eval (.BinOp a .Add b p1) X.env)::(false,eval (.Call (.Attribute (.Name x np) "replace" apos) [.Constant (.str c) j1 p2,.Constant (.str d) j2 p3] [] cpos) X.env)::backTo pos (aB es X.env))) _ _ s;refine eN (wpAny_BinOp (binT ha hb I h fun v u s2 x' y' H2 I2 rx ry ⟨xu,xv,z,e1,e2,⟨l1,l2,l3,l4⟩,hz,q⟩=>?_));subst e1 e2;obtain⟨t1,rfl⟩:=rx;obtain⟨t2,rfl⟩:=ry;refine P.add_str ?_;rw[if_neg (by rw[beq_iff_eq];omega),if_neg (by rw[beq_iff_eq];omega)];refine⟨au (yq (by show(xu.cps++xv.cps).size=_;rw[mK];rfl)) l3,?_⟩;have I3:=I2.tok (s2.toks+1);refine eN ?_;obtain⟨m,hn,hl'⟩:=I3.loc;obtain⟨uv,rz,lz⟩:=hl' i x _ hN hz hv;obtain⟨tz,rfl⟩:=rz;refine wpAny_Call_method_late rfl rfl hline rfl ?_;obtain⟨h1,h2⟩:=uJ (x:=.str z) (v:=.str z tz) (T:="str") I3 ⟨tz,rfl⟩ rfl;have nm:∀(P:Value->Shared->Prop),P (.str z tz) {s2 with toks:=s2.toks+1}->wpAny (model X.prog X.w) X.A (eval (.Name x np) X.env) P X.xe {s2 with toks:=s2.toks+1}:=fun P fin=>by
  rcases lz with⟨hk,hm⟩ |⟨hk,cc,hc',hcell⟩
  ·exact kU (wpAny_loadName_local I.ok.kind hk hn hm fin) hd
  ·rcases hk with hk|hk
   ·exact kU (wpAny_loadName_cell I.ok.kind hk hc' hcell fin) hd
   ·exact kU (wpAny_loadName_free I.ok.kind hk hc' hcell fin hcd) hd
 refine nm _ ⟨"str","str.replace",eQ,PySem.F.slot_str_replace,PySem.F.type_str_replace,h1,h2,?_⟩;refine jg rfl (yt ?_);refine eN (lS (k:=j1) (pos:=p2) (eN (lS (k:=j2) (pos:=p3) (Calls.spliced_nil ?_))));refine SC.replaceW (Nat.succ_ne_zero _) (Nat.succ_ne_zero _) (aW (jd _)) hc (au l4 (by decide)) hl fun t' k=>?_;refine thn (hr pos pins _ σ H2 _ (I2.tok k) q) fun us s4 ⟨xs,H4,I4,r4,q4⟩=>?_;exact⟨.str (xu++xv)::.str (gq z c d)::xs,H4,I4,.cons ⟨_,rfl⟩ (.cons ⟨_,rfl⟩ r4),q4⟩
noncomputable def tMkf(K:aa)(C:Addr)(sp:Sp)(dvs:List V)(E:XS)(fl:Str)(t:TA):TE:=fun σ H Q=>t σ H fun vs H1=>vs.length<=sizeLine/\∀a,H1 a=none->
 sp (.ref a::(vs++dvs)) (upd H1 a (exO a C none)) (fun v H2=>v=.non/\∃b dd fs w,V.ref a=.ref b/\H2 b=some (exO b C (some dd))/\H2 dd=some (xdO dd fs)/\gi K C fl=true/\fs.lookup fl=some w/\Q w H2) (E σ)
theorem pe_mkf{CX:CXT}{C f:Addr}{k:Nat}{fd:dh}{ps:List Str}{sp:Sp}{ds:List Value}{dvs:List V}{E:XS}{x fl:Str}{e:Expr}{es:List Expr}{t:TA}{np cpos pos:Pos}(Mk:MkX X.K C f)(F:gy X.prog X.w X.K X.mg X.base CX k f fd ps sp)(hr:fK (k+1) X.A)(hb:Binds X.K fd ps ds)(hd:bp dvs ds)
  (hx:oX CX X E)(hg:Gl X x)(hm:X.mg x=some (.ref C))(ha:PA X (e::es) t)(hdb:(x==("__debug__":Str))=false)
  (hst:aB (e::es) X.env=(false,eval e X.env)::aB es X.env)(hpl:(backTo cpos (aB es X.env)).any (·.1)=false):
  PE X (.Attribute (.Call (.Name x np) (e::es) [] cpos) fl pos) (tMkf X.K C sp dvs E fl t):=by
 intro pins s σ H Q I h;refine Attribute_any_ (cS (gD I hg hm ?_ hdb)) rfl;refine gB (h₀:=X.base) I.ok.mod.kin Mk.kp (thn (ha cpos pins s σ H _ I h) fun us s1 ⟨vs,H1,I1,r,hlen,q⟩=>⟨I1.kIn,?_⟩) hst hpl;refine bM (pW (E:=E σ) (Q:=fun v H2=>∃b dd fs w,v=.ref b/\H2 b=some (exO b C (some dd))/\H2 dd=some (xdO dd fs)/\gi X.K C fl=true/\fs.lookup fl=some w/\Q w H2) Mk F hr hb hd (fun H' s' e s'' I' z=>hx pins σ H' s' e s'' I' z) I1 r hlen (fun a hsz ha'=>q a ha')) (fun v s2 z=>?_) fun _ _ z=>z;obtain⟨w',H2,I2,rw',b,dd,fs,w,rfl,ea,ed,Ff,hl,q2⟩:=z;cases rw';obtain⟨⟨x0,he⟩,_⟩:=I2.hok b _ ea;obtain⟨⟨mA,N,rf,_⟩,_⟩:=I2.hok dd _ ed;have rv:=rf fl;rw[hl]at rv;cases hmA:mA fl with
 |none=>rw[hmA]at rv;exact rv.elim
 |some y=>
  rw[hmA]at rv;obtain⟨od,ho,hk⟩:=tF N hmA;have F':gE X.K C=true:=by
   unfold gi at Ff;rw[ae,ae]at Ff;exact Ff.1.1
  exact wI I2.kIn (od:=some od) ⟨he,rfl,rfl,ho⟩ (oE F') (mf Ff hk) (oo rv) ⟨w,H2,I2.tok _,rv,q2⟩
end
end L2
namespace HT
open PySem PyProof.Rows
section
variable {prog:Program}{w:World}{A:Around}{E:Value->Shared->Prop}{s:Shared}
theorem kF{t sl:Addr}{items:Array Value}{vl vu:Value}{lo hi:Option Int}{Q:Value->Shared->Prop}(ht:IsTup s.heap t items)(hs:s.heap.IsSliceOf sl vl vu .none)(pl:IsPart vl lo)(pu:IsPart vu hi)
  (h1:sIx items.size 0 lo=0)(h2:sIx items.size items.size hi=items.size)(h:Q (.ref t) s):wpAny (model prog w) A (rW (.ref t) (.ref sl)) Q E s:=by
 obtain⟨os,hos,hcs,hds⟩:=id hs;have hTs:s.TypeIs (.ref sl) "slice":=⟨os,hos,hcs⟩;unfold rW;try with_reducible refine bN ?_
 first |refine af (aj ?_) |skip
 refine af (wpAny_sequenceKey ht.typeIs (by decide) ?_);refine af (ka (name:=aI "__getitem__") ht.typeIs bC
  (uf bC ht.typeIs entry_tuple_getitem ?_ (args_tuple_getitem _ _)))
 show wpAny _ _ (lU (.ref t)>>=_) _ _ s;refine af (tupleItemsOf_ ht ?_);refine af (rS hTs ?_);rw[if_pos (by decide)];refine af (gQ hs pl pu ?_);show wpAny _ _ (if(((sIx items.size 0 lo:Nat):Int)==0&&(1:Int)==1&&(sIx items.size items.size hi-sIx items.size 0 lo)==items.size)=true then _ else _) _ _ s;rw[if_pos (by rw[h1,h2];simp)];refine af (m:=lV (.ref t)) ?_;unfold lV;refine af (rS ht.typeIs (aj ?_));rw[if_pos (by decide)];exact af (pI (aj ⟨_,rfl,aj h⟩))
end
end HT
namespace L2
open PySem PySem.Spec PySem.W PyProof.Rows
noncomputable def rSlW(K:aa):V->Option Int->Option Int->Hp->VK->Prop:=fun x lo hi H Q=>∃a xs,x=.ref a/\SqT K H a xs/\HT.sIx xs.length 0 lo=0/\HT.sIx xs.length xs.length hi=xs.length/\Q (.ref a) H
theorem sl_tupW{X:Cx}:SlR X (rSlW X.K):=by
 intro pins s σ H x v vl vu lo hi sl Q I rx hs pl pu h;obtain⟨a,xs,rfl,hx,h1,h2,q⟩:=h;cases rx;obtain⟨its,r,ht,hz⟩:=I.tuple hx;have hlen:its.toArray.size=xs.length:=by rw[ax];exact r.length.symm
 refine⟨"tuple",_,bC.lookup,ht.typeIs,?_⟩;exact HT.kF ht hs pl pu (by rw[hlen];exact h1) (by rw[hlen];exact h2) ⟨.ref a,H,I,rfl,q⟩
end L2
namespace Q
open PySem
noncomputable def oW(xs:Array Nat):Prop:=xs.toList.Pairwise (·<·)
structure Parts(xs:Array Nat)(j p:Nat):Prop where
 le:p<=xs.size
 lo:∀i x,i<p->xs[i]? =some x->x<j
 hi:∀i x,p<=i->xs[i]? =some x->j<=x
theorem qK{xs:Array Nat}(h:oW xs){i k x y:Nat}(hik:i<k)(hx:xs[i]? =some x)(hy:xs[k]? =some y):x<y:=by
 have hx':xs.toList[i]? =some x:=by simpa using hx
 have hy':xs.toList[k]? =some y:=by simpa using hy
 obtain⟨h1,e1⟩:=aE.mp hx';obtain⟨h2,e2⟩:=aE.mp hy';have :=List.pairwise_iff_getElem.mp h i k h1 h2 hik;rw[e1,e2]at this;exact this
theorem oq{xs:Array Nat}(h:oW xs)(j:Nat):∀(fuel lo hi:Nat),hi-lo<=fuel->lo<=hi->hi<=xs.size->(∀i x,i<lo->xs[i]? =some x->x<j)->(∀i x,hi<=i->xs[i]? =some x->j<=x)->Parts xs j (rZ xs j fuel lo hi)
 | 0,lo,hi,hf,hl,hs,a,b=>by
  have e:lo=hi:=by omega
  subst e;exact⟨hs,a,b⟩
 |fuel+1,lo,hi,hf,hl,hs,a,b=>by
  unfold rZ;by_cases c:lo<hi
  ·rw[if_pos c]
   have hm:(lo+hi)/2<xs.size:=by omega
   have em:xs[(lo+hi)/2]? =some xs[(lo+hi)/2]:=by simp[hm]
   have eg:xs.getD ((lo+hi)/2) j=xs[(lo+hi)/2]:=by simp[hm]
   simp only[eg];by_cases d:xs[(lo+hi)/2]<j
   ·rw[if_pos d]
    refine oq h j fuel _ hi (by omega) (by omega) hs (fun i x hi' e=>?_) b;by_cases k:i=(lo+hi)/2
    ·subst k
     rw[em]at e;cases e;exact d
    ·exact jB (qK h (by omega) e em) d
   ·rw[if_neg d]
    refine oq h j fuel lo _ (by omega) (by omega) (by omega) a fun i x hi' e=>?_;by_cases k:i=(lo+hi)/2
    ·subst k
     rw[em]at e;cases e;omega
    ·have :=qK h (by omega:(lo+hi)/2<i) em e
     omega
  ·rw[if_neg c]
   have e:lo=hi:=by omega
   subst e;exact⟨hs,a,b⟩
theorem mr{xs:Array Nat}(h:oW xs)(j:Nat):Parts xs j (cD xs j):=
 oq h j xs.size 0 xs.size (by omega) (bf _) (ao _) (fun i x hi _=>absurd hi (Nat.not_lt_zero _)) fun i x hi e=>by
  have :=(cb.mp e).1
  omega
theorem tK{α:Type}(xs:Array α)(p:Nat)(x:α):(k8 xs p x).toList=xs.toList.take p++x::xs.toList.drop p:=by
 unfold k8;simp;exact cE (by simp)
theorem sN{xs:Array Nat}{j:Nat}(h:oW xs)(hj:∀i:Nat,xs[i]? ≠some j):oW (k8 xs (cD xs j) j):=by
 have P:=mr h j;unfold oW;rw[tK];have sub:=h;unfold oW at sub;rw[List.pairwise_append];refine⟨sub.sublist (mY _ _),List.pairwise_cons.mpr ⟨fun y hy=>?_,sub.sublist (List.drop_sublist _ _)⟩,fun x hx y hy=>?_⟩
 ·obtain⟨i,hi⟩:=fL.mp hy
  rw[gP]at hi;have e:xs[cD xs j+i]? =some y:=by simpa using hi
  have :=P.hi _ _ (Nat.le_add_right _ _) e
  have ne:y≠j:=fun z=>hj _ (z▸e);omega
 ·obtain⟨i,hi⟩:=fL.mp hx
  have hip:i<cD xs j:=by
   have :=(aE.mp hi).1
   rw[bt]at this;omega
  rw[uA hip]at hi;have e:xs[i]? =some x:=by simpa using hi
  have lx:=P.lo _ _ hip e;rcases aA.mp hy with rfl|hy
  ·exact lx
  ·obtain⟨k,hk⟩:=fL.mp hy
   rw[gP]at hk;have e2:xs[cD xs j+k]? =some y:=by simpa using hk
   have :=P.hi _ _ (Nat.le_add_right _ _) e2
   omega
theorem yh{xs:Array Nat}(h:oW xs){i x:Nat}(e:xs[i]? =some x):cD xs x=i:=by
 have P:=mr h x;apply Nat.le_antisymm
 ·apply je
  intro c;exact da _ (P.lo i x c e)
 ·apply je
  intro c;have hs:cD xs x<xs.size:=jB c (cb.mp e).1;have e2:xs[cD xs x]? =some xs[cD xs x]:=by simp[hs]
  have a:=P.hi _ _ (ao _) e2;have b:=qK h c e2 e;omega
theorem uY(n:Nat):oW (Array.range n):=by
 unfold oW;rw[Array.toList_range];exact wZ
structure iK(t:bY):Prop where
 up:oW t.place
 no:t.dummies= #[]
theorem slot_no{t:bY}(T:iK t)(j:Nat):t.slot j≠.dummy:=by
 unfold bY.slot;simp only[T.no];split
 ·simp
 ·split
  ·rename_i h
   exact absurd h (by simp[sg])
  ·simp
theorem xn{t:bY}(T:iK t){j:Nat}(h:t.slot j=.empty):∀i:Nat,t.place[i]? ≠some j:=fun i e=>by
 have :=yh T.up e
 unfold bY.slot at h;simp only[this,e,beq_self_eq_true,if_true]at h;cases h
theorem pF(t:bY)(p:bY.Probe):(t.advance p).dummy=p.dummy:=by
 unfold bY.advance;split <;>rfl
theorem nz{t:bY}(T:iK t){f:Nat->Int}{h:Int}{j:Nat}{d:Option Nat}:∀(fuel:Nat)(p:bY.Probe),p.dummy=none->jv t f h fuel p=some (.empty j d)->t.slot j=.empty/\d=none
 | 0,p,_,e=>by simp[jv]at e
 |fuel+1,p,hp,e=>by
  unfold jv at e;cases hs:t.slot p.j with
  |empty=>
   rw[hs]at e;simp only[ez,bY.Met.empty.injEq]at e;exact⟨by rw[<-e.1];exact hs,by rw[<-e.2];exact hp⟩
  |dummy=>exact absurd hs (slot_no T _)
  |live i=>
   rw[hs]at e;simp only at e;split at e
   ·cases e
   ·exact nz T fuel _ (by rw[pF];exact hp) e
theorem pB{t:bY}(T:iK t){h:Int}{j:Nat}{b:Bool}(e:t.freeSlot h=some (j,b)):(∀i:Nat,t.place[i]? ≠some j)/\b=false:=by
 unfold bY.freeSlot at e;split at e
 ·rename_i j' d hm
  unfold bY.probe at hm;obtain⟨h1,h2⟩:=nz T _ _ (by rfl) hm;subst h2;simp only[mX,Option.isSome_none,ez,Prod.mk.injEq]at e;obtain⟨rfl,rfl⟩:=e;exact⟨xn T h1,rfl⟩
 ·cases e
theorem fO(t:bY)(n:Nat):iK (t.standIn n):=⟨uY n,rfl⟩
theorem zC{t:bY}(T:iK t){j:Nat}(hj:∀i:Nat,t.place[i]? ≠some j):iK (t.put j).1:=by
 refine⟨sN T.up hj,?_⟩;show(if sg t.dummies j=true then _ else t.dummies)= #[];rw[T.no];simp[sg]
theorem nH{t:bY}(T:iK t)(n:Nat):iK (t.orStandIn n):=by
 unfold wW;split
 ·exact T
 ·exact fO t n
theorem tH{t:bY}(T:iK t)(es:Array (Int×Value))(h:Int)(x:Value):iK (layNew t es h x).2.1/\(layNew t es h x).2.2.1=false:=by
 unfold layNew;split
 ·rename_i j b e
  obtain⟨h1,h2⟩:=pB T e;subst h2;exact⟨nH (zC T h1) _,rfl⟩
 ·exact⟨fO t _,rfl⟩
theorem qe{mask finger moves:Nat}{led plain:Bool}{hashes:Array Int}{t:bY}{order:Array Nat}(h:bY.laid mask finger moves led plain hashes=some (t,order)):iK t/\t.led=led/\t.plain=plain:=by
 unfold bY.laid at h;cases e:bY.layClean mask hashes with
 |none=>rw[e]at h;cases h
 |some owner=>
  rw[e]at h;have h':some (({mask,place:=(((aU (mask+1)).filterMap fun j=>(owner.getD j none).map (j,·)).map (·.1)).toArray,dummies:= #[],finger,led,moves,plain}:bY),(((aU (mask+1)).filterMap fun j=>(owner.getD j none).map (j,·)).map (·.2)).toArray)=some (t,order):=h;have h2:=(Prod.mk.inj (aX h')).1;subst h2;refine⟨⟨?_,rfl⟩,rfl,rfl⟩;show((((aU (mask+1)).filterMap fun j=>(owner.getD j none).map (j,·)).map (·.1)).toArray).toList.Pairwise (·<·);rw[A2,List.pairwise_map,List.pairwise_filterMap];refine wZ.imp fun{a b} hab x hx y hy=>?_;cases ha:owner.getD a none with
  |none=>rw[ha]at hx;cases hx
  |some u=>
   cases hb:owner.getD b none with
   |none=>rw[hb]at hy;cases hy
   |some v=>
    rw[ha]at hx;rw[hb]at hy;cases hx;cases hy;exact hab
theorem pv(t:bY)(es:Array (Int×Value))(wanted:Nat):iK (kc t es wanted).2.1:=by
 unfold kc;split
 ·rename_i t' order e
  simp only;split
  ·unfold AZ at e
   exact(qe e).1
  ·exact fO t _
 ·exact fO t _
theorem put_led(t:bY)(j:Nat):(t.put j).1.led=t.led:=rfl
theorem pA(t:bY)(n:Nat):(t.orStandIn n).led=t.led:=by
 unfold wW;split <;>rfl
theorem vm(t:bY)(es:Array (Int×Value))(h:Int)(x:Value):(layNew t es h x).2.1.led=t.led:=by
 unfold layNew;split
 ·exact(pA _ _).trans (put_led _ _)
 ·rfl
theorem qM(t:bY)(es:Array (Int×Value))(wanted:Nat):(kc t es wanted).2.1.led=t.led:=by
 unfold kc;split
 ·rename_i t' order e
  simp only;split
  ·unfold AZ at e
   exact(qe e).2.1
  ·rfl
 ·rfl
section
variable {prog:Program}{w:World}{K:Type}[DecidableEq K]{knd:KeyKind prog w K}{A:Around}{E:Value->Shared->Prop}{s:Shared}
noncomputable def lO(knd:KeyKind prog w K)(h:Heap)(a:Addr)(S:K->Bool)(n:Nat)(led:Bool):Prop:=
 ∃o es ep t,h.get? a=some o/\o.ExactSet/\o.data=.set es ep t/\ElemsOf knd es.toList/\(∀k,S k=true↔∃e∈es.toList,knd.is k e.2=true)/\es.size<fB/\t.fits es.size=true/\es.size=n/\iK t/\t.led=led
theorem lO.of{h:Heap}{a:Addr}{S:K->Bool}{n:Nat}{led:Bool}(x:lO knd h a S n led):h.SetOf knd a S n:=by
 obtain⟨o,es,ep,t,e1,e2,e3,e4,e5,e6,e7,e8,_⟩:=x;exact⟨o,es,ep,t,e1,e2,e3,e4,e5,e6,e7,e8⟩
theorem nq{h:Heap}{a:Addr}{o:Obj}{es:Array (Int×Value)}{ep:Nat}{t:bY}(ho:h.get? a=some o)(hx:o.ExactSet)(hd:o.data=.set es ep t){es':Array (Int×Value)}{t':bY}{S':K->Bool}(hl:ElemsOf knd es'.toList)(hm:∀k,S' k=true↔∃e∈es'.toList,knd.is k e.2=true)(hb:es'.size<fB)(hf:t'.fits es'.size=true)(ht:iK t'):
  lO knd (h.update a (Obj.putSet es' t')) a S' es'.size t'.led:=by
 have g:=(SetOf_store (knd:=knd) ho hx hd hl hm hb hf).1;exact⟨_,es',ep+1,t',g,hx,rfl,hl,hm,hb,hf,rfl,ht,rfl⟩
theorem ub{g:Bool->Sem Unit}(hg:∀(b:Bool)(s₁:Shared)(Q':Unit->Shared->Prop),Q' () s₁->wpAny (model prog w) A (g b) Q' E s₁){a:Addr}{o:Obj}{es:Array (Int×Value)}{ep:Nat}{t:bY}(ho:s.heap.get? a=some o)(hx:o.ExactSet)(hd:o.data=.set es ep t)
  {es1:Array (Int×Value)}{t2:bY}{S':K->Bool}(hl:ElemsOf knd es1.toList)(hm:∀k',S' k'=true↔∃e∈es1.toList,knd.is k' e.2=true)(hb:es1.size<fB)(hf:t2.fits es1.size=true)(ht:iK t2){wasDummy:Bool}{R:Option Bool->Shared->Prop}
  (h:∀h',gJ a s.heap h'->lO knd h' a S' es1.size t2.led->R (some true) {s with heap:=h'}):
  wpAny (model prog w) A (do
    storeSet a es1 t2
    if(!wasDummy&&t2.tooFull)=true then do
      g (kc t2 es1 (cY es1.size)).2.2
      storeSet a (kc t2 es1 (cY es1.size)).1 (kc t2 es1 (cY es1.size)).2.1
      pure (some true)
     else pure (some true)) R E s:=by
 refine af (wpAny_storeSet_of ho hd ?_ (fits_of_scanBound hb));have ho1:=(SetOf_store (knd:=knd) ho hx hd hl hm hb hf).1;have x1:=nq (knd:=knd) ho hx hd hl hm hb hf ht;have sb:=sd s.heap a (Obj.putSet es1 t2);split
 ·have hp:=relayAll_perm t2 es1 (cY es1.size)
  have hr:=relayAll_fits t2 es1 (cY es1.size);have hT:=pv t2 es1 (cY es1.size);have hL:=qM t2 es1 (cY es1.size);generalize kc t2 es1 (cY es1.size)=Rl at hp hr hT hL⊢;obtain⟨es2,t3,gave⟩:=Rl;dsimp only at hp hr hT hL⊢;have hz:es2.size=es1.size:=by rw[<-cC,hp.length_eq,cC]
  refine af (hg _ _ _ (af (wpAny_storeSet_of ho1 rfl ?_ (fits_of_scanBound (by rw[hz];exact hb)))));have x2:=nq (knd:=knd) ho1 hx rfl (hl.perm hp) (fun k'=>(hm k').trans ⟨fun⟨e,he,q⟩=>⟨e,hp.mem_iff.mpr he,q⟩,fun⟨e,he,q⟩=>⟨e,hp.mem_iff.mp he,q⟩⟩) (by rw[hz];exact hb) hr hT;rw[hz,hL]at x2;exact aj (h _ (sb.trans (sd _ a _)) x2)
 ·exact aj (h _ sb x1)
theorem u5{t:bY}(T:iK t):iK {t with plain:=false}:=⟨T.up,T.no⟩
theorem addX{a:Addr}{S:K->Bool}{n:Nat}{led:Bool}{k:K}{x:Value}{Q:Bool->Shared->Prop}(hk:knd.is k x=true)(hsc:x.scannable=true)(hS:lO knd s.heap a S n led)(hroom:n+1<fB)
  (h:∀h',gJ a s.heap h'->lO knd h' a (fun k'=>S k'||decide (k'=k)) (if S k then n else n+1) led->Q (!S k) {s with heap:=h'}):
  wpAny (model prog w) A (setAddHashed a x (knd.hash k)) Q E s:=by
 obtain⟨o,es,ep,t,ho,hx,hd,hl,hm,hb,hf,hn,ht,he⟩:=hS;have hb1:es.size+1<fB:=by rw[hn];exact hroom
 unfold setAddHashed setAddHashedIn;refine bN (af (wpAny_setState_of ho hd hf ?_));dsimp only;rw[byScan_of hsc hb hl];simp only[↓reduceIte];unfold setAddByScan;refine af ?_;refine af (pI (af (wpAny_setScan_of hk ho hd hf hl ?_)));cases hr:List.findIdx? (fun e=>knd.is k e.2) es.toList with
 |some j=>
  dsimp only;obtain⟨hj,hp,_⟩:=List.findIdx?_eq_some_iff_getElem.mp hr;have hSk:S k=true:=(hm k).mpr ⟨es.toList[j],dj hj,hp⟩;refine aj (aj ?_);have :=h s.heap (gJ.refl a s.heap) ⟨o,es,ep,t,ho,hx,hd,hl,fun k'=>by
   rw[bK,decide_eq_true_eq,<-hm k'];exact⟨fun q=>q.elim id (fun e=>e▸hSk),.inl⟩,hb,hf,by rw[hSk];exact hn,ht,he⟩
  rw[hSk]at this;exact this
 |none=>
  dsimp only;have hSk:S k=false:=by
   cases q:S k with
   |false=>rfl
   |true=>
    obtain⟨e,m1,m2⟩:=(hm k).mp q;have :=List.findIdx?_eq_none_iff.mp hr e m1;rw[m2]at this;cases this
  have hw:∀(b:Bool){s₁:Shared}{Q':Unit->Shared->Prop},Q' () s₁->wpAny (model prog w) A (match b with |true=>rule "set.scan.the-table-gave-way" |false=>pure ()) Q' E s₁:=fun b s₁ Q' q=>by cases b<;>first |exact aj q|exact pI q
  have hp:=layNew_perm t es (knd.hash k) x;have hfit:=layNew_fits t es (knd.hash k) x;have hT:=(tH ht es (knd.hash k) x).1;have hL:=vm t es (knd.hash k) x;generalize layNew t es (knd.hash k) x=L at hp hfit hT hL⊢;obtain⟨es1,t1,wd,gave⟩:=L;dsimp only at hp hfit hT hL⊢;rw[Array.toList_push]at hp;have l1:ElemsOf knd es1.toList:=(hl.push hk hsc).perm hp;have m1:∀k',(S k'||decide (k'=k))=true↔∃e∈es1.toList,knd.is k' e.2=true:=mem_push_iff hk hm hp;have z1:es1.size=n+1:=by rw[<-cC,hp.length_eq,aD,cC,hn];rfl
  have b1:es1.size<fB:=by rw[z1];exact hroom
  refine af (hw _ ?_);have fin:∀h',gJ a s.heap h'->lO knd h' a (fun k'=>S k'||decide (k'=k)) es1.size led->Q true {s with heap:=h'}:=fun h' sb x=>by
   have :=h h' sb
   rw[hSk]at this;rw[z1]at x;exact this x
  split
  ·refine af ?_
   rw[hashByValue_scannable 8 hsc];refine aj (ub ?_ ho hx hd l1 m1 b1 ?_ ?_ ?_)
   ·intro b s₁ Q' q;cases b<;>first |exact aj q|exact pI q
   ·split
    ·exact hfit
    ·exact bY.fits_plain_off hfit
   ·split
    ·exact hT
    ·exact u5 hT
   ·intro h' sb x
    refine aj (fin h' sb ?_);split at x
    ·rw[hL,he]at x;exact x
    ·have e2:({t1 with plain:=false}:bY).led=led:=hL.trans he
     rw[e2]at x;exact x
  ·refine af (aj ?_)
   simp only[↓reduceIte];refine ub ?_ ho hx hd l1 m1 b1 hfit hT ?_
   ·intro b s₁ Q' q;cases b<;>first |exact aj q|exact pI q
   ·intro h' sb x
    rw[hL,he]at x;exact aj (fin h' sb x)
end
end Q
set_option maxHeartbeats 3200000
namespace Q
open PySem PySem.Spec PySem.W PyProof.Rows L2
section
variable {prog:Program}{w:World}{A:Around}{R:Result->Shared->Prop}{I:Addr}{fp wr:List Addr}{G:Array se->Array se->Prop}{n:Nat}{P:Nat->Value->Prop}{St:Nat->Shared->Prop}
theorem pV{led:Bool}(W:WalksS prog w A.in1 I fp wr G n P St)(S:Addr)(hSf:S∉fp)(ks:List Key)(hn:ks.length=n)(hv:∀i v,P i v->∃k,ks[i]? =some k/\RelV (kV k) v)(hb:n+1<fB):
  ∀(m i:Nat)(s:Shared),n-i=m->i<=n->St i s->lO (de prog w) s.heap S (has (met (ks.take i))) (met (ks.take i)).length led->
   (∀s',Moved (S::wr) G s s'->lO (de prog w) s'.heap S (has (met ks)) (met ks).length led->R (.ok (.ret .none)) s')->
   ic (model prog w) A (.builtin "set.update.loop" ⟨[.ref S,.ref I],[]⟩) R s
 | 0,i,s,hm,hi,st,hS,hR=>by
  obtain rfl:i=n:=by omega
  rw[<-hn,fM]at hS;refine kZ iC ?_;rw[jQ dw _];show wpAny _ A.in1 (pyNext (.ref I)>>=_) _ _ s;refine af (W.done s _ _ st fun s' mv=>?_);obtain⟨o,es,ep,t,ho,rest⟩:=hS;exact aj (hR s' (mv.mono fun b hb=>aw _ hb) ⟨o,es,ep,t,mv.heap S _ (fun z=>hSf (W.sub _ z)) ho,rest⟩)
 |m+1,i,s,hm,hi,st,hS,hR=>by
  have hlt:i<n:=by omega
  refine kZ iC ?_;rw[jQ dw _];show wpAny _ A.in1 (pyNext (.ref I)>>=_) _ _ s;refine af (W.item i s _ _ hlt st fun v s' hP st' mv=>?_);obtain⟨k,hk,rv⟩:=hv i v hP;have hS1:lO (de prog w) s'.heap S (has (met (ks.take i))) (met (ks.take i)).length led:=by
   obtain⟨o,es,ep,t,ho,rest⟩:=hS;exact⟨o,es,ep,t,mv.heap S _ (fun z=>hSf (W.sub _ z)) ho,rest⟩
  have hsc:v.scannable=true:=by
   cases k with
   |inl j=>obtain⟨t,rfl⟩:=rv;rfl
   |inr x=>obtain⟨t,rfl⟩:=rv;rfl
  show wpAny _ A.in1 (holding [v] (setAdd S v)>>=_) _ _ s';refine af (bN ?_);unfold setAdd;refine bN (af ((de prog w).pyHash (k:=k) (wx rv) ?_));have hle:=met_le (ks.take i);rw[bt]at hle;refine addX (knd:=de prog w) (led:=led) (s:={s' with toks:=s'.toks+1}) (wx rv) hsc hS1 (by omega) fun h' hsb hS2=>?_;have et:ks.take (i+1)=ks.take i++[k]:=by rw[mZ,hk];rfl
  have hS3:lO (de prog w) h' S (has (met (ks.take (i+1)))) (met (ks.take (i+1))).length led:=by
   rw[et,Ad];obtain⟨o,es,ep,t,ho,hex,hd,hel,hmem,hbb,hf,hnn,htt⟩:=hS2;refine⟨o,es,ep,t,ho,hex,hd,hel,fun j=>?_,hbb,hf,by rw[kB];exact hnn,htt⟩;rw[<-hmem j,jq,tD,bK,jq,decide_eq_true_eq]
  refine aj ⟨plainId_quiet dw _,pV W S hSf ks hn hv hb m (i+1) _ (by omega) hlt (W.frame _ s' _ _ st' (gr _) fun b hq o e=>?_) hS3 fun s'' mv2 hS4=>?_⟩
  ·rw[hsb.2 b (fun z:b=S=>hSf (by rw[<-z];exact hq))]
   exact e
  ·refine hR s'' (Moved.trans W.gtrans ((mv.mono fun b hb=>aw _ hb).then_heap (gr _) fun b o hq e=>?_) mv2) hS4
   rw[hsb.2 b (fun z:b=S=>hq (by rw[z];exact aq))];exact e
end
section
variable {prog:Program}{w:World}{A:Around}{E:Value->Shared->Prop}{s:Shared}
theorem ya(a:Value){Q₁:Value->Shared->Prop}(h:Q₁ (.ref s.heap.objs.size) {s with heap:=s.heap.push (ly (!w.params.followText "set-order"))}):ic (model prog w) A (.call (.builtin "set.__new__") ⟨[.type "set",a],[]⟩) (wants Q₁ E) s:=by
 refine vI ?_;show wpAny _ A.in1 (do uj "set.__new__" ⟨[.type "set",a],[]⟩;again (.builtin "set.__new__" ⟨[.type "set",a],[]⟩)) _ _ s;refine af (wpAny_of_eq (F.newCall_set_1 a) (aj ⟨plainId_quiet F.plain_set_new _,kZ F.entry_set_new ?_⟩));rw[jQ F.plain_set_new _];unfold Builtin.«set.__new__» Builtin.Frozenset.newClass;have hsub:=sub_set_self;obtain⟨hp,g,d,tk,os⟩:=s;dsimp only;wp_walk;refine wpAny_askSetting (aj ?_);dsimp only;simp only[newObj];exact af (wpAny_alloc (aj (aj h)))
theorem xq{l:Addr}{items:Array Value}{ks:List Key}{Q:Value->Shared->Prop}(hh:A.handled=none)(hl:s.heap.IsList l items)(hk:ks.length=items.size)
  (hv:∀(i:Nat)(v:Value),items[i]? =some v->∃k,ks[i]? =some k/\RelV (kV k) v)(hb:items.size+1<fB)
  (h:∀(h':Heap)(tk:Nat),lO (de prog w) h' s.heap.objs.size (has (met ks)) (met ks).length (!w.params.followText "set-order")->(∀b o,b<s.heap.objs.size->s.heap.get? b=some o->h'.get? b=some o)->Q (.ref s.heap.objs.size) {s with heap:=h',toks:=tk}):
  wpAny (model prog w) A (call (.type "set") [.ref l]) Q E s:=by
 have c0:=F.called_set;obtain⟨c,tl,hmro⟩:=c0.mro;have f1:=c0.made;have f2:=c0.sub;have f3:=c0.notType;have f4:=c0.canCreate;have f5:=F.typeCall_set_1 (.ref l);refine fv (vI ?_);show wpAny _ _ (callAny (.type "set") _) _ _ _;refine aj ⟨my _ (by decide+kernel),kZ F.entry_type_call ?_⟩;rw[Around.under_plain (weight_type_call_type "set" [.ref l] []) rfl];repeat(any_goals (first |assumption|wp_step))
 refine fX (ya (.ref l) (E:=E) (Q₁:=fun obj s1=>∃led:Bool,led=(!w.params.followText "set-order")/\obj=.ref s.heap.objs.size/\s1={s with heap:=s.heap.push (ly led)}) ⟨_,rfl,rfl,rfl⟩) fun r s1 hr=>?_;rcases r with e|fl
 ·exact hr
 rcases fl with _|_|_|obj
 ·exact hr.elim
 ·exact hr.elim
 ·exact hr.elim
 obtain⟨led,hled,rfl,rfl⟩:=hr;rw[<-hled]at h;have hS:(s.heap.push (ly led)).get? s.heap.objs.size=some (ly led):=aO _ rfl;have hT:Shared.TypeIs {s with heap:=s.heap.push (ly led)} (.ref s.heap.objs.size) "set":=⟨_,hS,rfl⟩;have f6:=c0.init.lookup;have f7:=c0.init.bind (.ref s.heap.objs.size);repeat(any_goals (first |assumption|wp_step))
 refine fX (eh (R:=wants (fun r s2=>r=.none/\∃h' tk,s2={s with heap:=h',toks:=tk}/\lO (de prog w) h' s.heap.objs.size (has (met ks)) (met ks).length led/\
  (∀b o,b<s.heap.objs.size->s.heap.get? b=some o->h'.get? b=some o)) E) c0.init.plain F.entry_set_init (check_set_init_1 hT ?_)) fun r2 s2 hr2=>?_
 ·obtain⟨ol,hol,hcl,nl,hdl⟩:=hl
  obtain⟨oc,od,odt,osl⟩:=ol;obtain rfl:oc=.type "list":=hcl;obtain rfl:odt=.seq items nl:=hdl;have hol':(s.heap.push (ly led)).get? l=some {cls:=.type "list",dict:=od,data:=.seq items nl,slots:=osl}:=ai _ hol;have g1:=F.sub_list_set;have g2:=F.sub_list_frozenset;have g3:(jc "list"==jc "dict")=false:=by decide
  have hl1:(s.heap.push (ly led)).IsList l items:=⟨_,hol',rfl,nl,rfl⟩;unfold Builtin.«set.__init__» noKeywords Builtin.Frozenset.updateFrom;generalize hPI:pyIter=PI
  wp_walk
  subst hPI;refine jt hl1 (af (wpAny_runValue ?_));have hlt:l<s.heap.objs.size:=ay hol;have h3:A.in1.in1.in1.handled=none:=by simp[hh]
  have hz:(s.heap.push (ly led)).objs.size=s.heap.objs.size+1:=dP _ _;have hne:l≠(s.heap.push (ly led)).objs.size:=by rw[hz];exact aW (iD hlt)
  have hnf:s.heap.objs.size∉[(s.heap.push (ly led)).objs.size,l]:=by
   rw[hz];intro z;rcases aA.mp z with z|z
   ·exact aW (jd _) z
   ·exact jA hlt (bc.mp z)
  refine pV (led:=led) ((Walks.list h3 _ l hne items).toS) s.heap.objs.size hnf ks hk hv hb (items.size-0) 0 _ (by omega) (bf _) ⟨⟨_,aO _ rfl,rfl,rfl⟩,hl1.push _⟩ ?_ fun s' mv hS'=>?_
  ·have hg:((s.heap.push (ly led)).push {cls:=.type "list_iterator",data:=.fields #[.ref l,.int 0 0]}).get? s.heap.objs.size=some (ly led):=ai _ hS
   exact⟨ly led,#[],0,_,hg,⟨rfl,rfl,rfl⟩,rfl,fun e he=>by simp at he,fun k=>by simp[met,has],by decide,by rfl,rfl,⟨fZ,rfl⟩,rfl⟩
  ·obtain⟨h',g',d',tk',os'⟩:=s'
   obtain rfl:g'=s.gens:=mv.gens;obtain rfl:d'=s.drawn:=mv.drawn;obtain rfl:os'=s.os:=mv.os;show wpAny _ _ _ _ _ _;refine aj ?_;show wpAny _ _ (ret cL) _ _ _;refine aj ⟨rfl,h',tk',rfl,hS',fun b o hq e=>mv.heap b o (fun z=>?_) (ai _ (ai _ e))⟩;rcases aA.mp z with z|z
   ·exact aW hq z
   ·exact aW (iD hq) ((bc.mp z).trans hz)
 ·rcases r2 with e|fl2
  ·exact hr2
  rcases fl2 with _|_|_|v
  ·exact hr2.elim
  ·exact hr2.elim
  ·exact hr2.elim
  obtain⟨rfl,h',tk,rfl,hS',hk'⟩:=hr2;repeat(any_goals (first |assumption|wp_step))
  exact h _ _ hS' hk'
end
theorem yb{X:Cx}(hc:X.calm=true):eK X (.type "set") (rSet X.K):=by
 intro pins s σ H xs us Q I r h;obtain⟨p,ks,rfl,hq,hz,q⟩:=h;obtain⟨u,rfl,rx⟩:=vals1 r;cases rx;obtain⟨its,r',pl,_⟩:=I.list hq;have hlen:=r'.length;rw[av]at hlen;refine xq (ks:=ks) (I.ok.hd hc) pl.isList (by rw[ax];exact hlen) (fun i v e=>wu r' i v (by simpa using e)) (by rw[ax,<-hlen];unfold fB;omega) fun h' tk hS kp=>?_;refine⟨.ref s.heap.objs.size,_,I.laid (t':=tk) (fun b o e=>kp b o (ay e) e) (ao _) (show cW X.prog X.w _ _ _ (uV _ (met ks).length)from ?_),rfl,q _ (I.hok.fresh (ao _))⟩;obtain⟨o,es,ep,t,ho,hex,hd,hel,hmem,hbb,hf,hn⟩:=hS.of;refine⟨⟨o,es,ep,t,ho,hex,hd,hbb,hf,hn⟩,⟨o,ho⟩,fun h1 h2 z k=>?_⟩;obtain⟨o,es,ep,t,ho,rest⟩:=z;exact⟨o,es,ep,t,k o ho,rest⟩
end Q
set_option maxHeartbeats 1000000
set_option maxHeartbeats 3200000
namespace L2
open PySem PySem.Spec PyProof.Rows Q
section
variable {X:Cx}
noncomputable def tSortSet(K:aa)(ta:TA):TE:=fun σ H Q=>ta σ H fun vs H1=>∃(p:Addr)(ns:List Int),vs=[V.ref p]/\SqL K H1 p (ns.map V.int)/\ns.length<64/\
 ∀(ms:List Int) l,ms.Nodup->(∀x,x∈ms↔x∈ns)->H1 l=none->Q (.ref l) (upd H1 l (.lst (sortI ms)))
end
end L2
set_option genInjectivity false
set_option genSizeOf false
namespace R
open PySem PySem.Spec PyProof.Rows L2
inductive Bf where
 |len|isinstance|all|list|tuple|set|int|isx
 deriving DecidableEq
noncomputable def Bf.name:Bf->Str
 |.len=>"len" |.isinstance=>"isinstance" |.all=>"all" |.list=>"list" |.tuple=>"tuple" |.set=>"set" |.int=>"int" |.isx=>"isinstance"
noncomputable def Bf.val:Bf->Value
 |.len=>.builtin "len" |.isinstance=>.builtin "isinstance" |.all=>.builtin "all" |.list=>.type "list" |.tuple=>.type "tuple" |.set=>.type "set" |.int=>.type "int" |.isx=>.builtin "isinstance"
theorem Bf.boot:∀b:Bf,eL b.name=some b.val
 |.len=>PySem.boot_len|.isinstance=>boot_isinstance|.all=>boot_all|.list=>pd|.tuple=>o6
 |.set=>by decide+kernel|.int=>pK|.isx=>boot_isinstance
theorem Bf.plain:∀b:Bf,b.name≠"__name__"/\(b.name==("__debug__":Str))=false:=by
 intro b;cases b<;>exact⟨by decide+kernel,by decide+kernel⟩
inductive Ty where
 |int|bool|str|list|tuple|dict|valueError
 deriving DecidableEq
noncomputable def Ty.name:Ty->Str
 |.int=>"int" |.bool=>"bool" |.str=>"str" |.list=>"list" |.tuple=>"tuple" |.dict=>"dict" |.valueError=>"ValueError"
noncomputable def Ty.t:Ty->String
 |.int=>"int" |.bool=>"bool" |.str=>"str" |.list=>"list" |.tuple=>"tuple" |.dict=>"dict" |.valueError=>"ValueError"
theorem Ty.boot:∀b:Ty,eL b.name=some (.type b.t)
 |.int=>pK|.bool=>PyProof.Rows.boot_bool|.str=>PyProof.Rows.boot_str|.list=>pd|.tuple=>o6|.dict=>PyProof.Rows.boot_dict|.valueError=>by decide+kernel
theorem Ty.plain:∀b:Ty,b.name≠"__name__"/\(b.name==("__debug__":Str))=false:=by
 intro b;cases b<;>exact⟨by decide+kernel,by decide+kernel⟩
noncomputable def gT(K:aa):Operator->R2
 |.Add=>fun x y H Q=>(rI0 fun i j=>.int (i+j)) x y H Q\/(∃i j,x=.str i/\y=.str j/\i.length+j.length<=sizeLine/\Q (.str (i++j)) H)\/rCat x y H Q\/vW K x y H Q\/vX K x y H Q
 |.Sub=>rI0 fun i j=>.int (i-j)
 |.Mult=>fun x y H Q=>(rI pH fun i j=>.int (i*j)) x y H Q\/rRep x y H Q\/zz x y H Q
 |.Mod=>rI (fun _ j=>0<j) fun i j=>.int (i%j)
 |.FloorDiv=>rI CDiv fun i j=>.int (i/j)
 |.Pow=>rI yl fun i j=>.int (i^j.toNat)
 |.RShift=>rI (fun _ j=>0<=j) fun i j=>.int (i/2^j.toNat)
 |.LShift=>rI yl fun i j=>.int (i*2^j.toNat)
 |.BitAnd=>rI0 fun i j=>.int (Builtin.bitAnd i j)
 |.BitXor=>rI0 fun i j=>.int (Builtin.bitXor i j)
 |_=>fun _ _ _ _=>False
noncomputable def dR(K:aa):CmpOp->R2
 |.Eq=>rEqD K
 |.NotEq=>rNeD K
 |.Lt=>rI0 fun i j=>.bl (decide (i<j))
 |.LtE=>rI0 fun i j=>.bl (decide (i<=j))
 |.Gt=>rI0 fun i j=>.bl (decide (j<i))
 |.GtE=>rI0 fun i j=>.bl (decide (j<=i))
 |.Is=>fun x y H Q=>y=.non/\Q (.bl (decide (x=.non))) H
 |.IsNot=>fun x y H Q=>y=.non/\Q (.bl (!decide (x=.non))) H
 |.In=>fun x y H Q=>((∃i j,x=.str i/\y=.str j/\Q (.bl (!(bS j i 0 j.length 1).isEmpty)) H))\/rIn K false x y H Q
 |.NotIn=>fun x y H Q=>((∃i j,x=.str i/\y=.str j/\Q (.bl (!(!(bS j i 0 j.length 1).isEmpty))) H))\/rIn K true x y H Q
noncomputable def rUn(K:aa):wV->V->Hp->VK->Prop
 |.USub=>rU fun i=>.int (-i)
 |_=>fun _ _ _=>False
noncomputable def rSlc(K:aa):V->Option Int->Option Int->Hp->VK->Prop:=fun x lo hi H Q=>rSlL K x lo hi H Q\/rSlT K x lo hi H Q\/rSlS x lo hi H Q\/rSlW K x lo hi H Q
noncomputable def rBf(K:aa):Bf->List V->Hp->VK->Prop
 |.len=>fun xs H Q=>(∃p ys,xs=[.ref p]/\(SqL K H p ys\/SqT K H p ys)/\Q (.int ys.length) H)\/(∃z:Str,xs=[.str z]/\z.length<=sizeLine/\Q (.int z.length) H)\/(∃a n,xs=[V.ref a]/\H a=some (_root_.Q.uV a n)/\Q (.int n) H)
 |.isinstance=>fun xs H Q=>(∃x T t b,xs=[x,.ty T]/\iJ K H x t/\a6 K t (.type T)=some b/\Q (.bl b) H)\/(∃x C t b,xs=[x,.ref C]/\iJ K H x t/\a6 K t (.ref C)=some b/\Q (.bl b) H)
 |.all=>fun xs H Q=>∃(p:Addr)(bs:List Bool),xs=[.ref p]/\SqL K H p (bs.map V.bl)/\Q (.bl (bs.all id)) H
 |.list=>fun xs H Q=>∃p ys,xs=[.ref p]/\(SqL K H p ys\/SqT K H p ys)/\∀l,H l=none->Q (.ref l) (upd H l (.lst ys))
 |.tuple=>fun xs H Q=>∃p ys,xs=[.ref p]/\((SqL K H p ys/\∀l,H l=none->Q (.ref l) (upd H l (.tup ys)))\/(SqT K H p ys/\Q (.ref p) H))
 |.set=>Q.rSet K
 |.int=>fun xs H Q=>(∃i,xs=[.int i]/\Q (.int i) H)\/∃k,xs=[.bl k]/\Q (.int (if k then 1 else 0)) H
 |.isx=>fun xs H Q=>∃a C d y cv b,xs=[.ref a,y]/\H a=some (iY a (.ref C) d)/\(∀dd,d=some dd->∃fs,H dd=some (xdO dd fs))/\gE K C=true/\((∃T,y=.ty T/\cv=jc T)\/(∃D,y=.ref D/\cv=bg D))/\a6 K (.ref C) cv=some b/\Q (.bl b) H
inductive Mm where
 |append|clear|reverse|pop|index
 deriving DecidableEq
noncomputable def Mm.name:Mm->Str
 |.append=>"append" |.clear=>"clear" |.reverse=>"reverse" |.pop=>"pop" |.index=>"index"
noncomputable def Mm.id:Mm->String
 |.append=>"list.append" |.clear=>"list.clear" |.reverse=>"list.reverse" |.pop=>"list.pop" |.index=>"list.index"
noncomputable def rMm:Mm->V->List V->Hp->VK->Prop
 |.append=>vZ
 |.clear=>fun _ _ _ _=>False
 |.reverse=>fun _ _ _ _=>False
 |.pop=>fun _ _ _ _=>False
 |.index=>fun _ _ _ _=>False
noncomputable def baseOk:Expr->Bool
 |.Name .. =>true|.Subscript .. =>true
 |_=>false
mutual
inductive CE where
 |var (i:Nat)
 |con (c:Const)
 |glo (x:Str)
 |ty (t:Ty)
 |bin (op:Operator) (a b:CE)
 |un (op:wV) (a:CE)
 |cmp (op:CmpOp) (a b:CE)
 |chain (op op':CmpOp) (a b c:CE)
 |not (a:CE)
 |and (a b:CE)
 |or (a b:CE)
 |ite (c a b:CE)
 |idx (a i:CE)
 |cut (a:CE) (lo hi:CO)
 |tup (es:CL)
 |lst (es:CL)
 |call (f:Str) (es:CL)
 |bfn (b:Bf) (es:CL)
 |meth0 (m:Mm) (o:CE)
 |meth1 (m:Mm) (o a:CE)
 |join (sep:Str) (a:CE)
 |split(o a:CE)
 |upper (o:CE)
 |base (x:Str) (es:CL)
 |fld (a:CE) (f:Str)
 |inG (a b:CE)
 |idxG (a i:CE)
 |fstr (pre post:Str) (a:CE)
 |lstR (a b:CE) (i:Nat) (c d:Str) (r:CL)
 |lstR1 (f a b:CE) (i:Nat) (c d:Str) (r:CL)
 |mkf (x:Str) (es:CL) (f:Str)
 |comp (own:List Str) (fr:List Nat) (tg:CG) (it:CI) (cond:CO) (elt:CE)
inductive CL where
 |nil
 |cons (e:CE) (es:CL)
inductive CP where
 |nil
 |cons (k v:CE) (r:CP)
inductive CO where
 |no
 |yes (e:CE)
inductive CG where
 |name (i:Nat)
 |tup (gs:CGs)
 |sub (o i:CE)
inductive CGs where
 |nil
 |cons (g:CG) (gs:CGs)
inductive CI where
 |seq (e:CE)
 |lseq (e:CE)
 |tseq (e:CE)
 |range1 (e:CE)
 |range2 (a b:CE)
 |enum (e:CE)
end
noncomputable def CL.len:CL->Nat
 |.nil=>0
 |.cons _ r=>r.len+1
noncomputable def CGs.len:CGs->Nat
 |.nil=>0
 |.cons _ r=>r.len+1
mutual
inductive CS where
 |asg (g:CG) (e:CE)
 |asgc (i:Nat) (e:CE)
 |expr (e:CE)
 |iff (c:CE) (a b:CB)
 |forr (g:CG) (it:CI) (b:CB)
 |ret (e:CE)
 |retN
 |pass|brk|cont
 |rais (x:Str) (es:CL)
 |raisX (x:Str) (es:CL)
 |fldX (o:CE) (f:Str) (e:CE)
 |tryc (x:Str) (i:Nat) (b su:CB)
inductive CB where
 |nil
 |hole
 |cons (s:CS) (r:CB)
end
noncomputable def oa(sc:Scope)(x:Str):Bool:=sc.names.lookup x==some .local||sc.names.lookup x==some .cell||sc.names.lookup x==some .free
noncomputable def jy(sc:Scope)(x:Str):Bool:=sc.names.lookup x==some .globalImplicit
noncomputable def ip(x:Str):Bool:=(x==("__debug__":Str))==false&&(x==("__classdict__":Str))==false
noncomputable def zX:Const->Bool
 |.none=>true|.bool _=>true|.int _=>true|.str _=>true|_=>false
noncomputable def cv:Const->V
 |.none=>.non|.bool b=>.bl b|.int i=>.int i|.str x=>.str x|_=>.non
noncomputable def namesOf(N own:List Str)(fr:List Nat):List Str:=own++fr.map fun j=>N.getD j ""
noncomputable def jh(own:List Str)(fr:List Nat)(σ:L2.St):L2.St:=own.map (fun _=>none)++fr.map fun j=>(σ[j]?).getD none
noncomputable def jo:Expr->Bool
 |.Slice .. =>true
 |_=>false
noncomputable def isSet:Expr->Bool
 |.Set .. =>true
 |_=>false
noncomputable def lH:Expr->Bool
 |.ListComp .. =>true|.SetComp .. =>true|.DictComp .. =>true
 |_=>false
noncomputable def jV:Expr->Bool
 |.Tuple .. =>true
 |_=>false
noncomputable def ra(sc sc':Scope)(N own:List Str)(fr:List Nat):Bool:=
 decide (sc'.kind=.function)&&sc'.names.all (fun y=>decide (y.2=.cell->sc'.names.lookup y.1=some .cell))&&sc'.names.all (fun y=>decide (y.2=.local->sc'.names.lookup y.1=some .local))&&
 sc'.names.all (fun y=>decide (y.2=.free->sc.names.lookup y.1=some .cell\/sc.names.lookup y.1=some .free))&&decide ((namesOf N own fr).Nodup)&&
 fr.all (fun j=>decide (j<N.length)&&sc'.names.lookup (N.getD j "")==some .free)&&own.all (fun x=>sc'.names.lookup x==some .local||sc'.names.lookup x==some .cell)
noncomputable def isStr(x:Str):Expr->Bool
 |.Constant (.str y) _ _=>decide (y=x)
 |_=>false
noncomputable def wA(sc:Scope)(N:List Str)(i:Nat)(c d:Str):Expr->Bool
 |.Call (.Attribute (.Name x _) nm ap) [.Constant (.str c') _ _,.Constant (.str d') _ _] [] cp=>decide (nm=aI "replace")&&(ap.endLine==cp.line)&&N[i]? ==some x&&oa sc x&&ip x&&decide (c=c')&&decide (d=d')&& !(c==d)&&decide (d.length<=14)
 |_=>false
mutual
noncomputable def aF(sc:Scope)(N:List Str):CE->Expr->Bool
 |.var i,e=>match e with
  |.Name x _=>N[i]? ==some x&&oa sc x&&ip x
  |_=>false
 |.con c,e=>match e with
  |.Constant c' _ _=>zX c&&decide (c=c')
  |_=>false
 |.glo x,e=>match e with
  |.Name y _=>decide (x=y)&&jy sc x&&ip x
  |_=>false
 |.ty t,e=>match e with
  |.Name y _=>decide (t.name=y)&&jy sc y
  |_=>false
 |.bin op a b,e=>match e with
  |.BinOp a' op' b' _=>decide (op=op')&&aF sc N a a'&&aF sc N b b'
  |_=>false
 |.un op a,e=>match e with
  |.UnaryOp op' a' _=>decide (op=op')&&aF sc N a a'
  |_=>false
 |.cmp op a b,e=>match e with
  |.Compare a' [op'] [b'] _=>decide (op=op')&& !isSet b'&&aF sc N a a'&&aF sc N b b'
  |_=>false
 |.chain o1 o2 a b c,e=>match e with
  |.Compare a' [o1',o2'] [b',c'] _=>decide (o1=o1')&&decide (o2=o2')&& !isSet c'&&aF sc N a a'&&aF sc N b b'&&aF sc N c c'
  |_=>false
 |.not a,e=>match e with
  |.UnaryOp .Not a' _=>aF sc N a a'
  |_=>false
 |.and a b,e=>match e with
  |.BoolOp .And [a',b'] _=>aF sc N a a'&&aF sc N b b'
  |.BoolOp .And (a'::b'::c'::r') p=>aF sc N a a'&&aF sc N b (.BoolOp .And (b'::c'::r') p)
  |_=>false
 |.or a b,e=>match e with
  |.BoolOp .Or [a',b'] _=>aF sc N a a'&&aF sc N b b'
  |.BoolOp .Or (a'::b'::c'::r') p=>aF sc N a a'&&aF sc N b (.BoolOp .Or (b'::c'::r') p)
  |_=>false
 |.ite c a b,e=>match e with
  |.IfExp c' a' b' _=>aF sc N c c'&&aF sc N a a'&&aF sc N b b'
  |_=>false
 |.idx a i,e=>match e with
  |.Subscript a' i' _=> !jo i'&&aF sc N a a'&&aF sc N i i'
  |_=>false
 |.cut a lo hi,e=>match e with
  |.Subscript a' (.Slice lo' hi' none _) _=>aF sc N a a'&&AJ sc N lo lo'&&AJ sc N hi hi'
  |_=>false
 |.tup es,e=>match e with
  |.Tuple es' _ _=>gw sc N es es'
  |_=>false
 |.lst es,e=>match e with
  |.List es' _=>gw sc N es es'
  |_=>false
 |.call f es,e=>match e with
  |.Call (.Name f' _) es' [] _=>decide (f=f')&&jy sc f&&ip f&&gw sc N es es'
  |_=>false
 |.bfn b es,e=>match e with
  |.Call (.Name f' _) (e1::es') [] _=>decide (b.name=f')&&jy sc f'&&gw sc N es (e1::es')
  |_=>false
 |.meth0 m o,e=>match e with
  |.Call (.Attribute o' nm ap) [] [] cp=>decide (m.name=nm)&&(ap.endLine==cp.line)&&baseOk o'&&aF sc N o o'
  |_=>false
 |.meth1 m o a,e=>match e with
  |.Call (.Attribute o' nm ap) [a'] [] cp=>decide (m.name=nm)&&(ap.endLine==cp.line)&&baseOk o'&&aF sc N o o'&&aF sc N a a'
  |_=>false
 |.join sep a,e=>match e with
  |.Call (.Attribute o' nm ap) [a'] [] cp=>decide (nm=aI "join")&&(ap.endLine==cp.line)&&isStr sep o'&&aF sc N a a'
  |_=>false
 |.split o a,e=>match e with
  |.Call (.Attribute o' nm ap) [a'] [] cp=>decide (nm=aI "split")&&(ap.endLine==cp.line)&&baseOk o'&&aF sc N o o'&&aF sc N a a'
  |_=>false
 |.upper o,e=>match e with
  |.Call (.Attribute o' nm ap) [] [] cp=>decide (nm=aI "upper")&&(ap.endLine==cp.line)&&baseOk o'&&aF sc N o o'
  |_=>false
 |.base x es,e=>match e with
  |.Call (.Attribute (.Name x' _) nm ap) (e'::es') [] cp=>decide (nm=aI "__init__")&&(ap.endLine==cp.line)&&decide (x=x')&&jy sc x&&ip x&&decide (es.len<29)&&gw sc N es (e'::es')
  |_=>false
 |.fld a f,e=>match e with
  |.Attribute (.Name n np) f' _=>decide (f=f')&&aF sc N a (.Name n np)
  |_=>false
 |.inG a b,e=>match e with
  |.Compare a' [op'] [b'] _=>decide (CmpOp.In=op')&& !isSet b'&&aF sc N a a'&&aF sc N b b'
  |_=>false
 |.idxG a i,e=>match e with
  |.Subscript a' i' _=> !jo i'&&aF sc N a a'&&aF sc N i i'
  |_=>false
 |.fstr pre post a,e=>match e with
  |.JoinedStr [.Constant (.str x) _ _,.FormattedValue a' (-1) none _,.Constant (.str y) _ _] _=>decide (pre=x)&&decide (post=y)&&aF sc N a a'
  |_=>false
 |.lstR a b i c d r,e=>match e with
  |.List (.BinOp a' op b' _::e2::es) _=>decide (op=.Add)&&aF sc N a a'&&aF sc N b b'&&wA sc N i c d e2&&gw sc N r es
  |_=>false
 |.lstR1 f a b i c d r,e=>match e with
  |.List (f'::.BinOp a' op b' _::e2::es) _=>aF sc N f f'&&decide (op=.Add)&&aF sc N a a'&&aF sc N b b'&&wA sc N i c d e2&&gw sc N r es
  |_=>false
 |.mkf x es f,e=>match e with
  |.Attribute (.Call (.Name x' _) (e'::es') [] _) f' _=>decide (x=x')&&decide (f=f')&&jy sc x&&ip x&&gw sc N es (e'::es')
  |_=>false
 |.comp own fr tg it cond elt,e=>match e with
  |.ListComp elt' [⟨tg',it',ifs',0⟩] sc' _=>ra sc sc' N own fr&& !isSet it'&&rH sc N it it' tg'&&
   j6 sc' (namesOf N own fr) false tg tg'&&chkC sc' (namesOf N own fr) cond ifs'&&aF sc' (namesOf N own fr) elt elt'
  |_=>false
noncomputable def gw(sc:Scope)(N:List Str):CL->List Expr->Bool
 |.nil,es=>match es with
  | []=>true
  |_=>false
 |.cons e r,es=>match es with
  |e'::r'=>aF sc N e e'&&gw sc N r r'
  |_=>false
noncomputable def AI(sc:Scope)(N:List Str):CP->List (Option Expr)->List Expr->Bool
 |.nil,ks,vs=>match ks,vs with
  | [],[]=>true
  |_,_=>false
 |.cons k v r,ks,vs=>match ks,vs with
  |some k'::ks',v'::vs'=>aF sc N k k'&&aF sc N v v'&&AI sc N r ks' vs'
  |_,_=>false
noncomputable def AJ(sc:Scope)(N:List Str):CO->Option Expr->Bool
 |.no,o=>match o with
  |none=>true
  |_=>false
 |.yes e,o=>match o with
  |some e'=>aF sc N e e'
  |_=>false
noncomputable def chkC(sc:Scope)(N:List Str):CO->List Expr->Bool
 |.no,o=>match o with
  | []=>true
  |_=>false
 |.yes e,o=>match o with
  | [e']=>aF sc N e e'
  |_=>false
noncomputable def j6(sc:Scope)(N:List Str)(all:Bool):CG->Expr->Bool
 |.name i,e=>match e with
  |.Name x _=>N[i]? ==some x&&(sc.names.lookup x==some .local||sc.names.lookup x==some .cell)
  |_=>false
 |.tup gs,e=>match e with
  |.Tuple es' _ _=>jH sc N all gs es'
  |_=>false
 |.sub o i,e=>match e with
  |.Subscript o' i' _=> !jo i'&&aF sc N o o'&&aF sc N i i'
  |_=>false
noncomputable def jH(sc:Scope)(N:List Str)(all:Bool):CGs->List Expr->Bool
 |.nil,es=>match es with
  | []=>true
  |_=>false
 |.cons g gs,es=>match es with
  |e'::es'=>j6 sc N all g e'&&jH sc N all gs es'
  |_=>false
noncomputable def rH(sc:Scope)(N:List Str):CI->Expr->Expr->Bool
 |.seq e,e',_=>aF sc N e e'
 |.lseq e,e',_=>aF sc N e e'
 |.tseq e,e',_=>aF sc N e e'
 |.range1 e,x,_=>match x with
  |.Call (.Name f' _) [e'] [] _=>decide (f'="range")&&jy sc f'&&aF sc N e e'
  |_=>false
 |.range2 a b,x,_=>match x with
  |.Call (.Name f' _) [a',b'] [] _=>decide (f'="range")&&jy sc f'&&aF sc N a a'&&aF sc N b b'
  |_=>false
 |.enum e,x,tg'=>match x with
  |.Call (.Name f' _) [e'] [] _=>decide (f'="enumerate")&&jy sc f'&&aF sc N e e'&&jV tg'
  |_=>false
end
mutual
noncomputable def gc:CE->Bool
 |.var _=>true
 |.con _=>true
 |.glo _=>true
 |.ty _=>true
 |.lst es=>l9 es
 |.tup es=>l9 es
 |.bfn .isinstance es=>l9 es
 |.bfn .isx es=>l9 es
 |.fld a _=>gc a
 |.bin _ a b=>gc a&&gc b
 |.meth1 _ a b=>gc a&&gc b
 |_=>false
noncomputable def l9:CL->Bool
 |.nil=>true
 |.cons e es=>gc e&&l9 es
end
noncomputable def Ag:CE->Bool
 |.bfn .isx es=>l9 es
 |_=>false
mutual
noncomputable def Ai:CS->Bool
 |.asg (.name _) e=>gc e
 |.ret e=>gc e
 |.pass=>true
 |.expr e=>gc e
 |.iff c a b=>Ag c&&(ma a&&ma b)
 |_=>false
noncomputable def ma:CB->Bool
 |.nil=>true
 |.hole=>false
 |.cons s r=>Ai s&&ma r
end
mutual
noncomputable def gv(sc:Scope)(N:List Str):CS->Stmt->Bool
 |.asg g e,s=>match s with
  |.Assign [g'] e' _=>j6 sc N true g g'&&aF sc N e e'&& !lH e'&& !(jV g'&&jV e')
  |_=>false
 |.asgc i e,s=>match s with
  |.Assign [.Name x p] (.ListComp a b c d) sp=>N[i]? ==some x&&(sc.names.lookup x==some .local||sc.names.lookup x==some .cell)&&aF sc N e (.ListComp a b c d)&&
   (sc.names.lookup x==some .cell||(decide (p.line=d.line)&& !(c.names.any fun y=>decide (y.1=x)&&(decide (y.2=.local)||decide (y.2=.cell)))))
  |_=>false
 |.expr e,s=>match s with
  |.Expr e' _=>aF sc N e e'&& !lH e'
  |_=>false
 |.iff c a b,s=>match s with
  |.If c' a' b' _=>aF sc N c c'&&i3 sc N a a'&&i3 sc N b b'
  |_=>false
 |.forr g it b,s=>match s with
  |.For g' it' b' [] _=>j6 sc N true g g'&&rH sc N it it' g'&& !isSet it'&&i3 sc N b b'
  |_=>false
 |.ret e,s=>match s with
  |.Return (some e') _=>aF sc N e e'
  |_=>false
 |.retN,s=>match s with
  |.Return none _=>true
  |_=>false
 |.rais x es,s=>match s with
  |.Raise (some (.Call (.Name x' _) (e'::es') [] _)) none _=>decide (x=x')&&jy sc x&&ip x&&gw sc N es (e'::es')
  |_=>false
 |.raisX x es,s=>match s with
  |.Raise (some (.Call (.Name x' _) (e'::es') [] _)) none _=>decide (x=x')&&jy sc x&&ip x&&gw sc N es (e'::es')
  |_=>false
 |.fldX o f e,s=>match s with
  |.Assign [.Attribute o' f' _] e' _=>decide (f=f')&&aF sc N o o'&&aF sc N e e'&& !lH e'
  |_=>false
 |.tryc x i b su,s=>match s with
  |.Try b' [.ExceptHandler (some (.Name x' _)) (some n) (s0::ss) _] [] [] _=>decide (x=x')&&jy sc x&&ip x&&N[i]? ==some n&&sc.names.lookup n==some .local&&ma su&&i3 sc N su (s0::ss)&&i3 sc N b b'
  |_=>false
 |.pass,s=>match s with
  |.Pass _=>true
  |_=>false
 |.brk,s=>match s with
  |.Break _=>true
  |_=>false
 |.cont,s=>match s with
  |.Continue _=>true
  |_=>false
noncomputable def i3(sc:Scope)(N:List Str):CB->List Stmt->Bool
 |.hole,_=>true
 |.nil,ss=>match ss with
  | []=>true
  |_=>false
 |.cons s r,ss=>match ss with
  |s'::r'=>gv sc N s s'&&i3 sc N r r'
  |_=>false
end
structure Gam where
 val:Str->Option V
 fn:Str->Nat->Option (Sp×List V)
 ini:Str->Nat->Option (Addr×Sp×List V)
 dic:Addr->Option (List (Key×V))
noncomputable def xW(K:aa)(tl:TE):TI:=fun σ H R=>tl σ H fun x H1=>(∃a,x=.ref a/\(∃xs,SqL K H1 a xs)/\R (Itl K a) H1)\/(∃a,x=.ref a/\(∃xs,SqT K H1 a xs)/\R (Itt K a) H1)\/(∃z,x=.str z/\R (Its z) H1)
noncomputable def sC(K:aa)(t:TE):TT:=fun σ H Q=>t σ H fun x H1=>∃k,TruV K x H1 k/\Q k H1
mutual
noncomputable def wpE(G:Gam)(K:aa)(E:XS):CE->TE
 |.var i=>qC i
 |.con c=>tC (cv c)
 |.glo x=>fun σ H Q=>∃v,G.val x=some v/\Q v H
 |.ty t=>tC (.ty t.t)
 |.bin op a b=>tOp (gT K op) (wpE G K E a) (wpE G K E b)
 |.un op a=>tUn (rUn K op) (wpE G K E a)
 |.cmp op a b=>tOp (dR K op) (wpE G K E a) (wpE G K E b)
 |.chain o1 o2 a b c=>m8 (dR K o1) (dR K o2) (wpE G K E a) (wpE G K E b) (wpE G K E c)
 |.not a=>yQ (wpE G K E a)
 |.and a b=>yU (wpE G K E a) (wpE G K E b)
 |.or a b=>tOrV (wpE G K E a) (wpE G K E b)
 |.ite c a b=>tIf (wpT G K E c) (wpE G K E a) (wpE G K E b)
 |.idx a i=>tOp (rIx K) (wpE G K E a) (wpE G K E i)
 |.cut a lo hi=>tSl (rSlc K) (wpE G K E a) (wpO G K E lo) (wpO G K E hi)
 |.tup es=>tTup (wpL G K E es)
 |.lst es=>yR (wpL G K E es)
 |.call f es=>fun σ H Q=>∃sp dvs,G.fn f es.len=some (sp,dvs)/\sG sp dvs (E σ) (wpL G K E es) σ H Q
 |.bfn b es=>tCB (rBf K b) (wpL G K E es)
 |.meth0 m o=>tBM0 K "list" (rMm m) (wpE G K E o)
 |.meth1 m o a=>tBM K "list" (rMm m) (wpE G K E o) (iR (wpE G K E a) pk)
 |.join sep a=>tBM K "str" (rJoin K) (tC (.str sep)) (iR (wpE G K E a) pk)
 |.split o a=>tBM K "str" zy (wpE G K E o) (iR (wpE G K E a) pk)
 |.upper o=>tBM0 K "str" zx (wpE G K E o)
 |.base x es=>fun σ H Q=>∃B,G.val x=some (.ref B)/\tBase K B (wpL G K E es) σ H Q
 |.fld a f=>fun σ H Q=>wpE G K E a σ H fun x H1=>rFld K f x H1 Q
 |.inG a b=>tOp (rInG G.dic) (wpE G K E a) (wpE G K E b)
 |.idxG a i=>tOp (rIxG G.dic) (wpE G K E a) (wpE G K E i)
 |.fstr pre post a=>tFst pre post (wpE G K E a)
 |.lstR a b i c d r=>yR (sE (wpE G K E a) (wpE G K E b) i c d (wpL G K E r))
 |.lstR1 f a b i c d r=>yR (iR (wpE G K E f) (sE (wpE G K E a) (wpE G K E b) i c d (wpL G K E r)))
 |.mkf x es f=>fun σ H Q=>∃C sp dvs,G.ini x es.len=some (C,sp,dvs)/\tMkf K C sp dvs E f (wpL G K E es) σ H Q
 |.comp own fr tg it cond elt=>pQ (wpI G K E it) (wpG G K N0 tg) (wpC G K N0 cond) (wpE G K N0 elt) (jh own fr)
noncomputable def wpT(G:Gam)(K:aa)(E:XS):CE->TT
 |.cmp op a b=>sD (tOp (dR K op) (wpE G K E a) (wpE G K E b))
 |.chain o1 o2 a b c=>sD (m8 (dR K o1) (dR K o2) (wpE G K E a) (wpE G K E b) (wpE G K E c))
 |.not a=>tNot (wpT G K E a)
 |.and a b=>tAnd (wpT G K E a) (wpT G K E b)
 |.or a b=>tOr (wpT G K E a) (wpT G K E b)
 |.ite _ _ _=>fun _ _ _=>False
 |.var i=>sC K (qC i)
 |.con c=>sC K (tC (cv c))
 |.glo x=>sC K (fun σ H Q=>∃v,G.val x=some v/\Q v H)
 |.idx a i=>sC K (tOp (rIx K) (wpE G K E a) (wpE G K E i))
 |.call f es=>sC K (fun σ H Q=>∃sp dvs,G.fn f es.len=some (sp,dvs)/\sG sp dvs (E σ) (wpL G K E es) σ H Q)
 |.bfn b es=>sC K (tCB (rBf K b) (wpL G K E es))
 |_=>fun _ _ _=>False
noncomputable def wpL(G:Gam)(K:aa)(E:XS):CL->TA
 |.nil=>pk
 |.cons e es=>iR (wpE G K E e) (wpL G K E es)
noncomputable def wpP(G:Gam)(K:aa)(E:XS):CP->List (TE×TE)
 |.nil=>[]
 |.cons k v r=>(wpE G K E k,wpE G K E v)::wpP G K E r
noncomputable def wpO(G:Gam)(K:aa)(E:XS):CO->TO
 |.no=>mM
 |.yes e=>vM (wpE G K E e)
noncomputable def wpC(G:Gam)(K:aa)(E:XS):CO->TT
 |.no=>tYes
 |.yes e=>wpT G K E e
noncomputable def wpG(G:Gam)(K:aa)(E:XS):CG->TG
 |.name i=>ot i
 |.tup gs=>gTup K gs.len (wpGs G K E gs)
 |.sub o i=>gSub (wpE G K E o) (wpE G K E i) rSetL
noncomputable def wpGs(G:Gam)(K:aa)(E:XS):CGs->TGs
 |.nil=>gNil
 |.cons g gs=>Au (wpG G K E g) (wpGs G K E gs)
noncomputable def wpI(G:Gam)(K:aa)(E:XS):CI->TI
 |.seq e=>xW K (wpE G K E e)
 |.lseq e=>Aq K (wpE G K E e)
 |.tseq e=>iTup K (wpE G K E e)
 |.range1 e=>Ap (iR (wpE G K E e) pk)
 |.range2 a b=>Ao (iR (wpE G K E a) (iR (wpE G K E b) pk))
 |.enum e=>Ar K (wpE G K E e)
end
mutual
noncomputable def wpS(G:Gam)(K:aa)(E:XS):CS->TS
 |.asg g e=>xk (wpE G K E e) (wpG G K E g)
 |.asgc i e=>xk (wpE G K E e) (ot i)
 |.expr e=>yS (wpE G K E e)
 |.iff c a b=>tIfS (wpT G K E c) (wpB G K E a) (wpB G K E b)
 |.forr g it b=>tFor (wpI G K E it) (wpG G K E g) (wpB G K E b)
 |.ret e=>tRet (wpE G K E e)
 |.retN=>yP
 |.rais x es=>fun D σ H=>∃C,G.val x=some (.ref C)/\b9 K (.ref C)=true/\PySem.W.excIn K C bmV "ValueError.__new__"=true/\wpL G K E es σ H fun vs H1=>vs.length<=sizeLine/\E σ (.ref C) none H1
 |.raisX x es=>fun D σ H=>∃C sp dvs,G.ini x es.len=some (C,sp,dvs)/\zj C sp dvs E (wpL G K E es) D σ H
 |.fldX o f e=>sFldX K (wpE G K E o) (wpE G K E e) f
 |.tryc x i b su=>fun D σ H=>∃C,G.val x=some (.ref C)/\wpB G K (lM K C i (wpB G K N0 su) D) b D σ H
 |.pass=>sF
 |.brk=>yT
 |.cont=>tCont
noncomputable def wpB(G:Gam)(K:aa)(E:XS):CB->TS
 |.nil=>sF
 |.hole=>fun _ _ _=>False
 |.cons s r=>tSeq (wpS G K E s) (wpB G K E r)
end
noncomputable abbrev Sat(G:Gam)(K:aa)(sp:Sp)(c:CB)(N:List Str):Prop:=∀vs H Q E,sp vs H Q E->wpB G K (fun _=>E) c {nx:=fun _ H'=>Q .non H',rt:=Q} (L2.start N vs) H
noncomputable def fq:List Str:=["len","isinstance","all","any","list","tuple","int","bool","str","dict","range","enumerate","sorted","set","min","max","ValueError","sum","zip"]
structure Ok(CX:CXT)(G:Gam)(E:XS)(sc:Scope)(N:List Str)(all:Bool)(X:Cx):Prop where
 names:X.N=N
 top:all=true->X.stack=X.env::X.outer/\X.env.frame=some X.env.locals/\X.ex=[]
 nd:N.Nodup
 loc:∀x,sc.names.lookup x=some .local->X.env.scope.names.lookup x=some .local
 cel:∀x,sc.names.lookup x=some .cell->X.env.scope.names.lookup x=some .cell
 fre:∀x,sc.names.lookup x=some .free->X.env.scope.names.lookup x=some .cell\/X.env.scope.names.lookup x=some .free
 glo:∀x,sc.names.lookup x=some .globalImplicit->X.env.scope.names.lookup x=some .globalImplicit
 all:all=true->∀x,X.fn x=true
 own:∀x,sc.names.lookup x=some .cell->X.fn x=true
 calm:X.calm=true
 hu:X.A.units+50<cLine
 val:∀x v,G.val x=some v->∃u,X.mg x=some u/\RelV v u
 fn:∀x n sp dvs,G.fn x n=some (sp,dvs)->∃f fd ps ds k,gy X.prog X.w X.K X.mg X.base CX k f fd ps sp/\fK k X.A/\X.mg x=some (.ref f)/\b9 X.K (.ref f)=true/\Binds X.K fd ps ds/\bp dvs ds
 ini:∀x n C sp dvs,G.ini x n=some (C,sp,dvs)->∃f fd ps ds k,MkX X.K C f/\gy X.prog X.w X.K X.mg X.base CX k f fd ps sp/\fK (k+1) X.A/\X.mg x=some (.ref C)/\Binds X.K fd ps ds/\bp dvs ds
 dic:∀a kvs,G.dic a=some kvs->yk X.prog X.w X.K a kvs
 blt:∀x∈fq,X.mg x=none
 px:PassesOwn (model X.prog X.w) X.A X.env X.xe
 pass:oX CX X E
 made:MadeS X E
 madeX:vG X E
 cx:CX=CXx X.prog X.w
theorem Bf.mem:∀b:Bf,b.name∈fq:=by intro b;cases b<;>decide+kernel
theorem Ty.mem:∀b:Ty,b.name∈fq:=by intro b;cases b<;>decide+kernel
section
variable {CX:CXT}{G:Gam}{E:XS}{sc:Scope}{N:List Str}{all:Bool}{X:Cx}
theorem Ok.vis(o:Ok CX G E sc N all X){x:Str}(h:oa sc x=true):Vis X.env.scope x:=by
 unfold oa at h;rw[bK,bK,beq_iff_eq,beq_iff_eq,beq_iff_eq]at h;rcases h with(h|h) |h
 ·exact .inl (o.loc x h)
 ·exact .inr (.inl (o.cel x h))
 ·rcases o.fre x h with q|q
  ·exact .inr (.inl q)
  ·exact .inr (.inr q)
theorem Ok.gl(o:Ok CX G E sc N all X){x:Str}(h:jy sc x=true):Gl X x:=by
 unfold jy at h;rw[beq_iff_eq]at h;exact o.glo x h
theorem b7{x:Str}(h:ip x=true):(x==("__debug__":Str))=false/\(x==("__classdict__":Str))=false:=by
 unfold ip at h;rw[ae,beq_iff_eq,beq_iff_eq]at h;exact h
theorem vY:∀op,OpR X (cB op) (gT X.K op)
 |.Add=>op_add.or (vf.or (op_cat.or (op_catT.or op_cat0)))
 |.Sub=>op_sub
 |.Mult=>op_mul.or (op_rep.or op_repS)
 |.Mod=>op_mod
 |.FloorDiv=>op_fdiv
 |.Pow=>op_pow
 |.RShift=>op_shr
 |.MatMult=>fun _ _ _ _ _ _ _ _ _ _ _ _ h=>h.elim
 |.Div=>fun _ _ _ _ _ _ _ _ _ _ _ _ h=>h.elim
 |.LShift=>op_shl
 |.BitOr=>fun _ _ _ _ _ _ _ _ _ _ _ _ h=>h.elim
 |.BitXor=>op_xor
 |.BitAnd=>op_and
theorem jk(hu:X.A.units+50<cLine):∀op,OpR X (bV op) (dR X.K op)
 |.Eq=>op_eqD (by omega)
 |.NotEq=>op_neD (by omega)
 |.Lt=>op_lt
 |.LtE=>op_le
 |.Gt=>op_gt
 |.GtE=>op_ge
 |.Is=>op_isN
 |.IsNot=>op_notN
 |.In=>xI.or xJ
 |.NotIn=>qY.or qZ
theorem rUn_ok:∀op,UnR X (unaryOp op) (rUn X.K op)
 |.USub=>un_neg
 |.Not=>fun _ _ _ _ _ _ _ _ _ h=>h.elim
 |.UAdd=>fun _ _ _ _ _ _ _ _ _ h=>h.elim
 |.Invert=>fun _ _ _ _ _ _ _ _ _ h=>h.elim
theorem rSlc_ok:SlR X (rSlc X.K):=sl_list.or (sl_tup.or (sl_str.or sl_tupW))
theorem zA(hc:X.calm=true)(hu:X.A.units+50<cLine):∀b,eK X (Bf.val b) (rBf X.K b)
 |.len=>rL.or (rK.or Q.pE)
 |.isinstance=>mm.or kH
 |.all=>AL hc
 |.list=>rJ
 |.tuple=>pD
 |.set=>Q.yb hc
 |.int=>yc
 |.isx=>kG
theorem Mm.slot:∀m:Mm,Slot "list" m.name m.id
 |.append=>PySem.F.slot_list_append|.clear=>PySem.F.slot_list_clear|.reverse=>PySem.F.slot_list_reverse|.pop=>PySem.F.slot_list_pop|.index=>PySem.F.slot_list_index
theorem Mm.ty:∀m:Mm,typeOf (.builtin m.id)=pure (.type "method_descriptor")
 |.append=>PySem.F.type_list_append|.clear=>PySem.F.type_list_clear|.reverse=>PySem.F.type_list_reverse|.pop=>PySem.F.type_list_pop|.index=>PySem.F.type_list_index
theorem u0:∀m:Mm,MtR X m.id (rMm m)
 |.append=>xM|.clear=>fun _ _ _ _ _ _ _ _ _ _ _ _ h=>h.elim|.reverse=>fun _ _ _ _ _ _ _ _ _ _ _ _ h=>h.elim|.pop=>fun _ _ _ _ _ _ _ _ _ _ _ _ h=>h.elim|.index=>fun _ _ _ _ _ _ _ _ _ _ _ _ h=>h.elim
theorem hZ{o:Expr}(h:baseOk o=true)(nm:Str)(env:Env)(t:Sem Value):pb o nm env t=t:=by
 cases o<;>first
  |rfl
  | (exact absurd h (by simp[baseOk]))
theorem a9{c:CE}{e:Expr}(h:aF sc N c e=true)(es:List Expr)(env:Env):aB (e::es) env=(false,eval e env)::aB es env:=by
 cases e<;>first
  |rfl
  | (cases c<;>exact absurd h (by simp[aF]))
theorem cn{c:CE}{r:CL}{es:List Expr}(h:gw sc N (.cons c r) es=true):∃e' r',es=e'::r'/\aF sc N c e'=true/\gw sc N r r'=true:=by
 cases es with
 |nil=>exact absurd h (by simp[gw])
 |cons e' r'=>
  have h':(aF sc N c e'&&gw sc N r r')=true:=h;rw[ae]at h';exact⟨e',r',rfl,h'⟩
theorem cP{es:List Expr}(h:gw sc N .nil es=true):es=[]:=by
 cases es with
 |nil=>rfl
 |cons e' r'=>exact absurd h (by simp[gw])
theorem cq:∀{l:CL}{es:List Expr},gw sc N l es=true->∀(env:Env)(pos:Pos),(backTo pos (aB es env)).any (·.1)=false
 |.nil,es,h,env,pos=>by rw[cP h];rfl
 |.cons c r,es,h,env,pos=>by
  obtain⟨e',r',rfl,h1,h2⟩:=cn h;rw[a9 h1];show(false||(backTo pos (aB r' env)).any (·.1))=false;rw[cq h2];rfl
theorem tS:∀{l:CL}{es:List Expr},gw sc N l es=true->es.length=l.len
 |.nil,es,h=>by rw[cP h];rfl
 |.cons c r,es,h=>by
  obtain⟨e',r',rfl,h1,h2⟩:=cn h;rw[aY,tS h2,CL.len]
theorem rb{e:Expr}(h:isSet e=false)(env:Env):∀x,fW e env x=pure x:=by
 intro x;cases e<;>first
  |rfl
  | (exact absurd h (by simp[isSet]))
theorem gU{e:Expr}(h:isSet e=false)(op:CmpOp):AY op e=false:=by
 cases e<;>first
  |rfl
  | (exact absurd h (by simp[isSet]))
theorem nA{e:Expr}(h:jo e=false):wR e:=by
 intro o i;cases e<;>first
  |rfl
  | (exact absurd h (by simp[jo]))
theorem ku{e:Expr}(h:lH e=false)(t:Option Expr)(l:Nat)(env:Env):kb e t l env=pure false:=by
 cases e<;>first
  |rfl
  | (exact absurd h (by simp[lH]))
theorem qQ{e:Expr}{t:TE}(h:PE X e t)(he:∀whole,isTrue e X.env whole=(do let v<-whole;rV e.pos;holding [v] (truthy v))):PT X e (sC X.K t):=kq h he
theorem pi_any{tg l:Expr}{tl:TE}(hl:PE X l tl):PI X tg l (xW X.K tl):=by
 intro pins s σ H R I h;refine thn (hl pins s σ H _ I h) fun v s1 ⟨x,H1,I1,r1,q1⟩=>?_;have key:∀{tl':TE}{wi:TI},True:=fun{_ _}=>trivial;rcases q1 with q1|q1|q1
 ·obtain⟨a,e,⟨xs,hq⟩,q⟩:=q1
  subst e;cases r1;obtain⟨its,rv,p,hz⟩:=I1.list hq;refine jt p.isList ?_;refine⟨s1.heap.objs.size,[s1.heap.objs.size],_,_,H1,rfl,I1.kept (t':=s1.toks) fun b o e=>ai _ e,pO a _,⟨_,aO _ rfl,rfl,rfl⟩,fun b hb=>?_,q⟩;have e:b=s1.heap.objs.size:=by simpa using hb
  subst e;exact I1.rB (ao _) (I1.hok.fresh (ao _))
 ·obtain⟨a,e,⟨xs,hq⟩,q⟩:=q1
  subst e;cases r1;obtain⟨its,rv,p,hz⟩:=I1.tuple hq;refine wpAny_pyIter_tuple (show s1.heap.IsTuple a its.toArray from p) ?_;refine⟨s1.heap.objs.size,[s1.heap.objs.size],_,_,H1,rfl,I1.kept (t':=s1.toks) fun b o e=>ai _ e,m7 a _,⟨_,aO _ rfl,rfl,rfl⟩,fun b hb=>?_,q⟩;have e:b=s1.heap.objs.size:=by simpa using hb
  subst e;exact I1.rB (ao _) (I1.hok.fresh (ao _))
 ·obtain⟨z,e,q⟩:=q1
  subst e;obtain⟨t,rfl⟩:=r1;refine wpAny_pyIter_strU ?_;refine⟨s1.heap.objs.size,[s1.heap.objs.size],_,_,H1,rfl,I1.kept (t':=s1.toks) fun b o e=>ai _ e,yK z _ t,⟨_,aO _ rfl,rfl,rfl⟩,fun b hb=>?_,q⟩;have e:b=s1.heap.objs.size:=by simpa using hb
  subst e;exact I1.rB (ao _) (I1.hok.fresh (ao _))
end
set_option maxHeartbeats 4000000
section
variable {CX:CXT}{G:Gam}
structure jr(sc sc':Scope)(N own:List Str)(fr:List Nat):Prop where
 kind:sc'.kind=.function
 cellk:∀y∈sc'.names,y.2=.cell->sc'.names.lookup y.1=some .cell
 own1:∀y∈sc'.names,y.2=.local->sc'.names.lookup y.1=some .local
 free:∀y∈sc'.names,y.2=.free->sc.names.lookup y.1=some .cell\/sc.names.lookup y.1=some .free
 nd:(namesOf N own fr).Nodup
 fr:∀j∈fr,j<N.length/\sc'.names.lookup (N.getD j "")=some .free
 own2:∀x∈own,sc'.names.lookup x=some .local\/sc'.names.lookup x=some .cell
theorem nr{sc sc':Scope}{N own:List Str}{fr:List Nat}(h:ra sc sc' N own fr=true):jr sc sc' N own fr:=by
 unfold ra at h;simp only[ae,aM,decide_eq_true_eq,beq_iff_eq,bK]at h;obtain⟨⟨⟨⟨⟨⟨h1,h2⟩,h3⟩,h4⟩,h5⟩,h6⟩,h7⟩:=h;exact⟨h1,h2,h3,h4,h5,h6,h7⟩
theorem jr.comp{E:XS}{sc sc':Scope}{N own:List Str}{fr:List Nat}{all:Bool}{X:Cx}(S:jr sc sc' N own fr)(o:Ok CX G E sc N all X):js X (namesOf N own fr) sc':=
 ⟨S.kind,S.cellk,S.own1,fun y hy hf=>by
  rcases S.free y hy hf with q|q
  ·exact .inl (o.cel _ q)
  ·exact o.fre _ q⟩
theorem jr.mkOk{E:XS}{sc sc':Scope}{N own:List Str}{fr:List Nat}{all:Bool}{X:Cx}(S:jr sc sc' N own fr)(o:Ok CX G E sc N all X):MkOk X (namesOf N own fr) sc' (jh own fr):=by
 intro σ hl;refine⟨by simp[jh,namesOf],fun i x v h1 h2=>?_⟩;unfold jh at h2;unfold namesOf at h1;by_cases hi:i<own.length
 ·rw[ck (by simpa using hi),bw]at h2
  cases q:own[i]? with
  |none=>rw[q]at h2;cases h2
  |some z=>rw[q]at h2;cases h2
 ·rw[cf (by simpa using hi),bw,av]at h2
  rw[cf (by simpa using hi),bw]at h1;cases q:fr[i-own.length]? with
  |none=>rw[q]at h2;cases h2
  |some j=>
   rw[q]at h1 h2;have hx:N.getD j ""=x:=aX h1;have hv:(σ[j]?).getD none=some v:=aX h2;obtain⟨hj,hf⟩:=S.fr j (a7 q);refine⟨by rw[<-hx];exact hf,j,?_,?_⟩
   ·rw[o.names,<-hx,a8,ah hj];rfl
   ·cases w:σ[j]? with
    |none=>rw[w]at hv;cases hv
    |some z=>rw[w]at hv;exact congrArg some hv
noncomputable abbrev HX(CX:CXT):Prop:=∀o H s e s',CX o H s E0 e s'->False
theorem Ok.comp{E:XS}{sc sc':Scope}{N own:List Str}{fr:List Nat}{all:Bool}{X:Cx}(hCX:HX CX)(S:jr sc sc' N own fr)(o:Ok CX G E sc N all X)(C:Addr)(s₀:Shared)(H₀:Hp)(fp:List Addr):
  Ok CX G N0 sc' (namesOf N own fr) false (cm X (namesOf N own fr) sc' C s₀ H₀ fp) where
 names:=rfl
 nd:=S.nd
 loc:=fun x h=>lookup_relabel_local (env:=X.env) h
 cel:=fun x h=>dz (env:=X.env) h (by decide)
 own:=fun x h=>ph.mpr ⟨(x,.cell),aT h,by simp⟩
 fre:=fun x h=>(dJ (env:=X.env) h).symm
 glo:=fun x h=>dz (env:=X.env) h (by decide)
 all:=fun h=>absurd h (by decide)
 calm:=o.calm
 hu:=o.hu
 val:=o.val
 fn:=o.fn
 ini:=o.ini
 dic:=o.dic
 blt:=o.blt
 px:=PassesOwn.never
 pass:=fun _ _ _ _ _ _ _ h=>(hCX _ _ _ _ _ h).elim
 made:=fun _ _ _ _ _ _ _ _ _ _ h=>h.elim
 madeX:=fun _ _ _ _ _ _ _ _ _ h=>h.elim
 cx:=o.cx
 top:=fun h=>absurd h (by decide)
theorem nK{sc:Scope}{N:List Str}{all:Bool}{g:CG}{e:Expr}(h:j6 sc N all g e=true)(es:List Expr)(env:Env):er (e::es) env=(false,assign e env)::er es env:=by
 cases e<;>first
  |rfl
  | (cases g<;>exact absurd h (by simp[j6]))
theorem oK{sc:Scope}{N:List Str}{all:Bool}{g:CG}{r:CGs}{es:List Expr}(h:jH sc N all (.cons g r) es=true):∃e' r',es=e'::r'/\j6 sc N all g e'=true/\jH sc N all r r'=true:=by
 cases es with
 |nil=>exact absurd h (by simp[jH])
 |cons e' r'=>
  have h':(j6 sc N all g e'&&jH sc N all r r')=true:=h;rw[ae]at h';exact⟨e',r',rfl,h'⟩
theorem qk{sc:Scope}{N:List Str}{all:Bool}{es:List Expr}(h:jH sc N all .nil es=true):es=[]:=by
 cases es with
 |nil=>rfl
 |cons e' r'=>exact absurd h (by simp[jH])
theorem mj{sc:Scope}{N:List Str}{all:Bool}:∀{gs:CGs}{es:List Expr},jH sc N all gs es=true->∀env,(er es env).length=gs.len/\(er es env).findIdx? (·.1)=none
 |.nil,es,h,env=>by rw[qk h];exact⟨rfl,rfl⟩
 |.cons g r,es,h,env=>by
  obtain⟨e',r',rfl,h1,h2⟩:=oK h;obtain⟨a,b⟩:=mj h2 env;rw[nK h1];refine⟨by rw[aY,a,CGs.len],?_⟩;rw[List.findIdx?_cons];simp[b]
end
section
variable {CX:CXT}{G:Gam}
theorem du{a b c:Bool}(h:(a&&b&&c)=true):a=true/\b=true/\c=true:=by
 simp only[ae]at h;exact⟨h.1.1,h.1.2,h.2⟩
theorem iH{a:Bool}(h:(!a)=true):a=false:=by simpa using h
noncomputable abbrev IHE(CX:CXT)(G:Gam)(c:CE):Prop:=∀(e:Expr){E:XS}{sc:Scope}{N:List Str}{all:Bool}{X:Cx},Ok CX G E sc N all X->aF sc N c e=true->PE X e (wpE G X.K E c)
noncomputable abbrev IHT(CX:CXT)(G:Gam)(c:CE):Prop:=∀(e:Expr){E:XS}{sc:Scope}{N:List Str}{all:Bool}{X:Cx},Ok CX G E sc N all X->aF sc N c e=true->PT X e (wpT G X.K E c)
noncomputable abbrev IHW(CX:CXT)(G:Gam)(c:CE):Prop:=∀(op:BoolOp)(es:List Expr)(pos:Pos){E:XS}{sc:Scope}{N:List Str}{all:Bool}{X:Cx},Ok CX G E sc N all X->aF sc N c (.BoolOp op es pos)=true->PW X (.BoolOp op es pos) (wpT G X.K E c)
noncomputable abbrev IHL(CX:CXT)(G:Gam)(c:CL):Prop:=∀(es:List Expr){E:XS}{sc:Scope}{N:List Str}{all:Bool}{X:Cx},Ok CX G E sc N all X->gw sc N c es=true->PA X es (wpL G X.K E c)
noncomputable abbrev IHP(CX:CXT)(G:Gam)(c:CP):Prop:=∀(ks:List (Option Expr))(vs:List Expr){E:XS}{sc:Scope}{N:List Str}{all:Bool}{X:Cx},Ok CX G E sc N all X->AI sc N c ks vs=true->∀pos,
  PPs X pos ks vs (wpP G X.K E c)/\ks.all (·.isSome)=true/\ks.length=vs.length/\(c≠.nil->ks≠[])
noncomputable abbrev IHO(CX:CXT)(G:Gam)(c:CO):Prop:=∀(e:Option Expr){E:XS}{sc:Scope}{N:List Str}{all:Bool}{X:Cx},Ok CX G E sc N all X->AJ sc N c e=true->PO X e (wpO G X.K E c)
noncomputable abbrev IHC(CX:CXT)(G:Gam)(c:CO):Prop:=∀(es:List Expr){E:XS}{sc:Scope}{N:List Str}{all:Bool}{X:Cx},Ok CX G E sc N all X->chkC sc N c es=true->PTs X es (wpC G X.K E c)
noncomputable abbrev IHG(CX:CXT)(G:Gam)(c:CG):Prop:=∀(e:Expr){E:XS}{sc:Scope}{N:List Str}{all:Bool}{X:Cx},Ok CX G E sc N all X->j6 sc N all c e=true->PG X e (wpG G X.K E c)
noncomputable abbrev AU(CX:CXT)(G:Gam)(c:CGs):Prop:=∀(es:List Expr){E:XS}{sc:Scope}{N:List Str}{all:Bool}{X:Cx},Ok CX G E sc N all X->jH sc N all c es=true->PGs X es (wpGs G X.K E c)
noncomputable abbrev IHI(CX:CXT)(G:Gam)(c:CI):Prop:=∀(e tg:Expr){E:XS}{sc:Scope}{N:List Str}{all:Bool}{X:Cx},Ok CX G E sc N all X->rH sc N c e tg=true->PI X tg e (wpI G X.K E c)
theorem sE_var(hCX:HX CX){i:Nat}:IHE CX G (.var i):=by
  intro e E sc N all X o h;unfold aF at h;split at h
  ·obtain⟨h1,h2,h3⟩:=du h
   obtain⟨d1,d2⟩:=b7 h3;exact u7 (by rw[o.names];exact beq_iff_eq.mp h1) (o.vis h2) d1 d2
  ·cases h
theorem zr(hCX:HX CX){c:Const}:IHE CX G (.con c):=by
  intro e E sc N all X o h;unfold aF at h;split at h
  ·rw[ae,decide_eq_true_eq]at h
   obtain⟨h1,rfl⟩:=h;cases c with
   |none=>exact zO
   |bool b=>exact pe_bl
   |int i=>exact zQ
   |str x=>exact nB
   |_=>exact absurd h1 (by simp[zX])
  ·cases h
theorem sE_glo(hCX:HX CX){x:Str}:IHE CX G (.glo x):=by
  intro e E sc N all X o h;unfold aF at h;split at h
  ·obtain⟨h1,h2,h3⟩:=du h
   rw[decide_eq_true_eq]at h1;subst h1;intro pins s σ H Q I hw;obtain⟨v,hv,q⟩:=hw;obtain⟨u,hu,r⟩:=o.val _ _ hv;exact qV (o.gl h2) hu r (b7 h3).1 pins s σ H Q I q
  ·cases h
theorem sE_ty(hCX:HX CX){t:Ty}:IHE CX G (.ty t):=by
  intro e E sc N all X o h;unfold aF at h;split at h
  ·rw[ae,decide_eq_true_eq]at h
   obtain⟨h1,h2⟩:=h;subst h1;exact wm (o.gl h2) (o.blt _ t.mem) t.boot rfl t.plain.1 t.plain.2
  ·cases h
theorem sE_bin(hCX:HX CX){op:Operator}{a:CE}{b:CE}(iE_a:IHE CX G a)(iE_b:IHE CX G b):IHE CX G (.bin op a b):=by
  intro e E sc N all X o h;unfold aF at h;split at h
  ·obtain⟨h1,h2,h3⟩:=du h
   rw[decide_eq_true_eq]at h1;subst h1;exact pe_op (vY op) (iE_a _ o h2) (iE_b _ o h3)
  ·cases h
theorem sE_un(hCX:HX CX){op:wV}{a:CE}(iE_a:IHE CX G a):IHE CX G (.un op a):=by
  intro e E sc N all X o h;unfold aF at h;split at h
  ·rw[ae,decide_eq_true_eq]at h
   obtain⟨h1,h2⟩:=h;subst h1;exact pe_un (rUn_ok op) (iE_a _ o h2)
  ·cases h
theorem sE_cmp(hCX:HX CX){op:CmpOp}{a:CE}{b:CE}(iE_a:IHE CX G a)(iE_b:IHE CX G b):IHE CX G (.cmp op a b):=by
  intro e E sc N all X o h;unfold aF at h;split at h
  ·rw[ae]at h
   obtain⟨h,h4⟩:=h;obtain⟨h1,h2,h3⟩:=du h;rw[decide_eq_true_eq]at h1;subst h1;exact wj (jk o.hu op) (iE_a _ o h3) (iE_b _ o h4) (gU (iH h2) op)
  ·cases h
theorem zt(hCX:HX CX){o1:CmpOp}{o2:CmpOp}{a:CE}{b:CE}{c:CE}(iE_a:IHE CX G a)(iE_b:IHE CX G b)(iE_c:IHE CX G c):IHE CX G (.chain o1 o2 a b c):=by
  intro e E sc N all X o h;unfold aF at h;split at h
  ·simp only[ae,decide_eq_true_eq]at h
   obtain⟨⟨⟨⟨⟨h1,h2⟩,h3⟩,h4⟩,h5⟩,h6⟩:=h;subst h1 h2;exact zS (jk o.hu o1) (jk o.hu o2) (iE_a _ o h4) (iE_b _ o h5) (iE_c _ o h6) (gU (iH h3) o2)
  ·cases h
theorem sE_not(hCX:HX CX){a:CE}(iE_a:IHE CX G a):IHE CX G (.not a):=by
  intro e E sc N all X o h;unfold aF at h;split at h
  ·skip
   exact pe_not (iE_a _ o h)
  ·cases h
theorem sE_and(hCX:HX CX){a:CE}{b:CE}(iE_a:IHE CX G a)(iE_b:IHE CX G b):IHE CX G (.and a b):=by
  intro e E sc N all X o h;unfold aF at h;split at h
  ·rw[ae]at h
   exact zU (iE_a _ o h.1) (zN (iE_b _ o h.2))
  ·rw[ae]at h
   exact zU (iE_a _ o h.1) (iE_b _ o h.2)
  ·cases h
theorem sE_or(hCX:HX CX){a:CE}{b:CE}(iE_a:IHE CX G a)(iE_b:IHE CX G b):IHE CX G (.or a b):=by
  intro e E sc N all X o h;unfold aF at h;split at h
  ·rw[ae]at h
   exact pe_or (iE_a _ o h.1) (zN (iE_b _ o h.2))
  ·rw[ae]at h
   exact pe_or (iE_a _ o h.1) (iE_b _ o h.2)
  ·cases h
theorem sE_ite(hCX:HX CX){c:CE}{a:CE}{b:CE}(iT_c:IHT CX G c)(iE_a:IHE CX G a)(iE_b:IHE CX G b):IHE CX G (.ite c a b):=by
  intro e E sc N all X o h;unfold aF at h;split at h
  ·obtain⟨h1,h2,h3⟩:=du h
   exact zR (iT_c _ o h1) (iE_a _ o h2) (iE_b _ o h3)
  ·cases h
theorem sE_idx(hCX:HX CX){a:CE}{i:CE}(iE_a:IHE CX G a)(iE_i:IHE CX G i):IHE CX G (.idx a i):=by
  intro e E sc N all X o h;unfold aF at h;split at h
  ·obtain⟨h1,h2,h3⟩:=du h
   exact zP Am (iE_a _ o h2) (iE_i _ o h3) (nA (iH h1))
  ·cases h
theorem sE_cut(hCX:HX CX){a:CE}{lo:CO}{hi:CO}(iE_a:IHE CX G a)(iO_lo:IHO CX G lo)(iO_hi:IHO CX G hi):IHE CX G (.cut a lo hi):=by
  intro e E sc N all X o h;unfold aF at h;split at h
  ·obtain⟨h1,h2,h3⟩:=du h
   exact zM rSlc_ok (iE_a _ o h1) (iO_lo _ o h2) (iO_hi _ o h3)
  ·cases h
theorem sE_tup(hCX:HX CX){es:CL}(iL_es:IHL CX G es):IHE CX G (.tup es):=by
  intro e E sc N all X o h;unfold aF at h;split at h
  ·skip
   exact zL (iL_es _ o h)
  ·cases h
theorem sE_lst(hCX:HX CX){es:CL}(iL_es:IHL CX G es):IHE CX G (.lst es):=by
  intro e E sc N all X o h;unfold aF at h;split at h
  ·skip
   exact qU (iL_es _ o h)
  ·cases h
theorem sE_call(hCX:HX CX){f:Str}{es:CL}(iL_es:IHL CX G es):IHE CX G (.call f es):=by
  intro e E sc N all X o h;unfold aF at h;split at h
  ·rename_i f' np es' pos
   rw[ae]at h;obtain⟨h,h4⟩:=h;obtain⟨h1,h2,h3⟩:=du h;rw[decide_eq_true_eq]at h1;subst h1;intro pins s σ H Q I hw;obtain⟨sp,dvs,hf,hw⟩:=hw;obtain⟨fa,fd,ps,ds,k,F,hr,hm,hk,hb,hd⟩:=o.fn _ _ _ _ hf;cases es with
   |nil=>
    have e0:=cP h4;subst e0;exact pX F hr (o.gl h2) hm hk hb hd o.pass (b7 h3).1 pins s σ H Q I hw
   |cons c r=>
    have hL:=iL_es _ o h4;obtain⟨e1,r1,rfl,g1,g2⟩:=cn h4;exact sT F hr (o.gl h2) hm hk hb hd o.pass hL (b7 h3).1 (a9 g1 _ _) (cq g2 _ _) pins s σ H Q I hw
  ·cases h
theorem sE_bfn(hCX:HX CX){b:Bf}{es:CL}(iL_es:IHL CX G es):IHE CX G (.bfn b es):=by
  intro e E sc N all X o h;unfold aF at h;split at h
  ·rename_i f' np e1 es' pos
   obtain⟨h1,h2,h3⟩:=du h;rw[decide_eq_true_eq]at h1;subst h1;have hL:=iL_es _ o h3;have hs:aB (e1::es') X.env=(false,eval e1 X.env)::aB es' X.env/\(backTo pos (aB es' X.env)).any (·.1)=false:=by
    cases es with
    |nil=>exact absurd (cP h3) (by simp)
    |cons c r=>
     obtain⟨e1',r1,q,g1,g2⟩:=cn h3;cases q;exact⟨a9 g1 _ _,cq g2 _ _⟩
   have hB:=zA (X:=X) o.calm o.hu b;have hv:=b.boot;cases b with
   |list=>exact ee hB (o.gl h2) (o.blt _ (Bf.mem _)) hv hL (Bf.plain _).1 (Bf.plain _).2 hs.1 hs.2
   |tuple=>exact ee hB (o.gl h2) (o.blt _ (Bf.mem _)) hv hL (Bf.plain _).1 (Bf.plain _).2 hs.1 hs.2
   |len=>exact dS hB (o.gl h2) (o.blt _ (Bf.mem _)) hv hL (Bf.plain _).1 (Bf.plain _).2 hs.1 hs.2
   |isinstance=>exact dS hB (o.gl h2) (o.blt _ (Bf.mem _)) hv hL (Bf.plain _).1 (Bf.plain _).2 hs.1 hs.2
   |all=>exact dS hB (o.gl h2) (o.blt _ (Bf.mem _)) hv hL (Bf.plain _).1 (Bf.plain _).2 hs.1 hs.2
   |set=>exact ee hB (o.gl h2) (o.blt _ (Bf.mem _)) hv hL (Bf.plain _).1 (Bf.plain _).2 hs.1 hs.2
   |isx=>exact dS hB (o.gl h2) (o.blt _ (Bf.mem _)) hv hL (Bf.plain _).1 (Bf.plain _).2 hs.1 hs.2
   |int=>exact ee hB (o.gl h2) (o.blt _ (Bf.mem _)) hv hL (Bf.plain _).1 (Bf.plain _).2 hs.1 hs.2
  ·cases h
theorem zp(hCX:HX CX){m:Mm}{b:CE}(iE_b:IHE CX G b):IHE CX G (.meth0 m b):=by
  intro e E sc N all X o h;unfold aF at h;split at h
  ·rename_i o' nm ap cp
   simp only[ae,decide_eq_true_eq]at h;obtain⟨⟨⟨h1,h2⟩,h3⟩,h4⟩:=h;subst h1;exact zT ie m.slot m.ty (u0 m) (iE_b _ o h4) (hZ h3 _ _ _) h2
  ·cases h
theorem zo(hCX:HX CX){m:Mm}{b:CE}{a:CE}(iE_b:IHE CX G b)(iE_a:IHE CX G a):IHE CX G (.meth1 m b a):=by
  intro e E sc N all X o h;unfold aF at h;split at h
  ·rename_i o' nm ap a' cp
   simp only[ae,decide_eq_true_eq]at h;obtain⟨⟨⟨⟨h1,h2⟩,h3⟩,h4⟩,h5⟩:=h;subst h1;exact wk ie m.slot m.ty (u0 m) (iE_b _ o h4) (eD (iE_a _ o h5) hO (a9 h5 _ _)) (hZ h3 _ _ _) (by rw[a9 h5];rfl) h2 (a9 h5 _ _) rfl
  ·cases h
theorem isStr_of{x:Str}{e:Expr}(h:isStr x e=true):∃j p,e=.Constant (.str x) j p:=by
 unfold isStr at h;split at h
 ·cases of_decide_eq_true h
  exact⟨_,_,rfl⟩
 ·cases h
theorem sE_join(hCX:HX CX){sep:Str}{a:CE}(iE_a:IHE CX G a):IHE CX G (.join sep a):=by
  intro e E sc N all X o h;unfold aF at h;split at h
  ·rename_i o' nm ap a' cp
   rw[ae]at h;obtain⟨h,h4⟩:=h;obtain⟨h1,h2,h3⟩:=du h;rw[decide_eq_true_eq]at h1;subst h1;obtain⟨j,p,rfl⟩:=isStr_of h3;exact wk eQ PySem.F.slot_str_join PySem.F.type_str_join mt_join nB (eD (iE_a _ o h4) hO (a9 h4 _ _)) rfl (by rw[a9 h4];rfl) h2 (a9 h4 _ _) rfl
  ·cases h
theorem AK{sc:Scope}{N:List Str}{l:CL}{es:List Expr}(h:gw sc N l es=true)(hl:l.len<29)(env:Env)(pos:Pos):((backTo pos (aB es env)).all (fun x=> !x.1)&&(rX pos (ju [] env)).all (fun x=>x.1.isSome)
   &&decide (es.length+([]:List Keyword).length+(if([]:List Keyword).isEmpty then 0 else 1)<30))=true:=by
 have h1:=cq h env pos;rw[ae,ae];refine⟨⟨?_,rfl⟩,?_⟩
 ·rw[List.any_eq_false]at h1
  exact aM.mpr fun x hx=>by simpa using h1 x hx
 ·rw[decide_eq_true_eq,tS h]
  exact jB hl (by decide)
theorem zm(hCX:HX CX){b a:CE}(iE_b:IHE CX G b)(iE_a:IHE CX G a):IHE CX G (.split b a):=by
  intro e E sc N all X o h;unfold aF at h;split at h
  ·rename_i o' nm ap a' cp
   simp only[ae,decide_eq_true_eq]at h;obtain⟨⟨⟨⟨h1,h2⟩,h3⟩,h4⟩,h5⟩:=h;subst h1;exact wk eQ eP PySem.F.type_str_split Aa (iE_b _ o h4) (eD (iE_a _ o h5) hO (a9 h5 _ _)) (hZ h3 _ _ _) (by rw[a9 h5];rfl) h2 (a9 h5 _ _) rfl
  ·cases h
theorem sE_base(hCX:HX CX){x:Str}{es:CL}(iL:IHL CX G es):IHE CX G (.base x es):=by
  intro e E sc N all X o h;unfold aF at h;split at h
  ·rename_i x' np nm ap e' es' cp
   simp only[ae,decide_eq_true_eq]at h;obtain⟨⟨⟨⟨⟨⟨h1,h2⟩,h3⟩,h4⟩,h5⟩,h6⟩,h7⟩:=h;subst h1;subst h3;intro pins s σ H Q I hw;obtain⟨B,hv,q⟩:=hw;obtain⟨u,hu,ru⟩:=o.val _ _ hv;obtain rfl:u=bg B:=ru;have hs:aB (e'::es') X.env=(false,eval e' X.env)::aB es' X.env/\(backTo cp (aB es' X.env)).any (·.1)=false:=by
    cases es with
    |nil=>exact absurd (cP h7) (by simp)
    |cons c r=>
     obtain⟨e1',r1,q,g1,g2⟩:=cn h7;cases q;exact⟨a9 g1 _ _,cq g2 _ _⟩
   exact pe_base (o.gl h4) hu (iL _ o h7) (b7 h5).1 hs.1 hs.2 (AK h7 h6 _ _) h2 pins s σ H Q I q
  ·cases h
theorem sE_fld(hCX:HX CX){a:CE}{f:Str}(iE_a:IHE CX G a):IHE CX G (.fld a f):=by
  intro e E sc N all X o h;unfold aF at h;split at h
  ·rw[ae,decide_eq_true_eq]at h
   obtain⟨h1,h2⟩:=h;subst h1;exact wg (iE_a _ o h2)
  ·cases h
theorem zl(hCX:HX CX){b:CE}(iE_b:IHE CX G b):IHE CX G (.upper b):=by
  intro e E sc N all X o h;unfold aF at h;split at h
  ·simp only[ae,decide_eq_true_eq]at h
   obtain⟨⟨⟨h1,h2⟩,h3⟩,h4⟩:=h;subst h1;exact zT eQ uo PySem.F.type_str_upper z9 (iE_b _ o h4) (hZ h3 _ _ _) h2
  ·cases h
theorem zd(hCX:HX CX){a:CE}:IHT CX G (.upper a):=by
  intro _ _ _ _ _ _ _ _;exact fun _ _ _ _ _ _ z=>z.elim
theorem y6(hCX:HX CX){a:CE}:IHW CX G (.upper a):=by
  intro _ _ _ _ _ _ _ _ _ h;exact absurd h (by simp[aF])
theorem ze(hCX:HX CX){a b:CE}:IHT CX G (.split a b):=by
  intro _ _ _ _ _ _ _ _;exact fun _ _ _ _ _ _ z=>z.elim
theorem y8(hCX:HX CX){a b:CE}:IHW CX G (.split a b):=by
  intro _ _ _ _ _ _ _ _ _ h;exact absurd h (by simp[aF])
theorem sT_base(hCX:HX CX){x:Str}{es:CL}:IHT CX G (.base x es):=by
  intro _ _ _ _ _ _ _ _;exact fun _ _ _ _ _ _ z=>z.elim
theorem sW_base(hCX:HX CX){x:Str}{es:CL}:IHW CX G (.base x es):=by
  intro _ _ _ _ _ _ _ _ _ h;exact absurd h (by simp[aF])
theorem sT_fld(hCX:HX CX){a:CE}{f:Str}:IHT CX G (.fld a f):=by
  intro _ _ _ _ _ _ _ _;exact fun _ _ _ _ _ _ z=>z.elim
theorem sW_fld(hCX:HX CX){a:CE}{f:Str}:IHW CX G (.fld a f):=by
  intro _ _ _ _ _ _ _ _ _ h;exact absurd h (by simp[aF])
theorem sE_inG(hCX:HX CX){a b:CE}(iE_a:IHE CX G a)(iE_b:IHE CX G b):IHE CX G (.inG a b):=by
  intro e E sc N all X o h;unfold aF at h;split at h
  ·rw[ae]at h
   obtain⟨h,h4⟩:=h;obtain⟨h1,h2,h3⟩:=du h;rw[decide_eq_true_eq]at h1;subst h1;exact wj (op_inG o.dic) (iE_a _ o h3) (iE_b _ o h4) (gU (iH h2) .In)
  ·cases h
theorem sE_idxG(hCX:HX CX){a i:CE}(iE_a:IHE CX G a)(iE_i:IHE CX G i):IHE CX G (.idxG a i):=by
  intro e E sc N all X o h;unfold aF at h;split at h
  ·obtain⟨h1,h2,h3⟩:=du h
   exact zP (ix_inG o.dic) (iE_a _ o h2) (iE_i _ o h3) (nA (iH h1))
  ·cases h
theorem sE_fstr(hCX:HX CX){pre post:Str}{a:CE}(iE_a:IHE CX G a):IHE CX G (.fstr pre post a):=by
  intro e E sc N all X o h;unfold aF at h;split at h
  ·obtain⟨h1,h2,h3⟩:=du h
   rw[decide_eq_true_eq]at h1 h2;subst h1;subst h2;exact pe_fstr (iE_a _ o h3)
  ·cases h
theorem sT_inG(hCX:HX CX){a b:CE}:IHT CX G (.inG a b):=by
  intro _ _ _ _ _ _ _ _;exact fun _ _ _ _ _ _ z=>z.elim
theorem sW_inG(hCX:HX CX){a b:CE}:IHW CX G (.inG a b):=by
  intro _ _ _ _ _ _ _ _ _ h;exact absurd h (by simp[aF])
theorem sT_idxG(hCX:HX CX){a i:CE}:IHT CX G (.idxG a i):=by
  intro _ _ _ _ _ _ _ _;exact fun _ _ _ _ _ _ z=>z.elim
theorem sW_idxG(hCX:HX CX){a i:CE}:IHW CX G (.idxG a i):=by
  intro _ _ _ _ _ _ _ _ _ h;exact absurd h (by simp[aF])
theorem sT_fstr(hCX:HX CX){pre post:Str}{a:CE}:IHT CX G (.fstr pre post a):=by
  intro _ _ _ _ _ _ _ _;exact fun _ _ _ _ _ _ z=>z.elim
theorem sW_fstr(hCX:HX CX){pre post:Str}{a:CE}:IHW CX G (.fstr pre post a):=by
  intro _ _ _ _ _ _ _ _ _ h;exact absurd h (by simp[aF])
theorem tJ{sc:Scope}{N:List Str}{i:Nat}{c d:Str}{e:Expr}(h:wA sc N i c d e=true):∃x np ap j1 p2 j2 p3 cp,e=.Call (.Attribute (.Name x np) "replace" ap) [.Constant (.str c) j1 p2,.Constant (.str d) j2 p3] [] cp/\(ap.endLine==cp.line)=true/\N[i]? =some x/\oa sc x=true/\ip x=true/\(c==d)=false/\d.length<=14:=by
 unfold wA at h;split at h
 ·simp only[ae,decide_eq_true_eq,m5,beq_iff_eq]at h
  obtain⟨⟨⟨⟨⟨⟨⟨⟨h1,h2⟩,h3⟩,h4⟩,h5⟩,h6⟩,h7⟩,h8⟩,h9⟩:=h;subst h1 h6 h7;exact⟨_,_,_,_,_,_,_,_,rfl,by rw[h2];exact beq_self_eq_true _,h3,h4,h5,h8,h9⟩
 ·cases h
theorem sE_lstR(hCX:HX CX){a b:CE}{i:Nat}{c d:Str}{r:CL}(iE_a:IHE CX G a)(iE_b:IHE CX G b)(iL_r:IHL CX G r):IHE CX G (.lstR a b i c d r):=by
  intro e E sc N all X o h;unfold aF at h;split at h
  ·simp only[ae,decide_eq_true_eq]at h
   obtain⟨⟨⟨⟨h1,h2⟩,h3⟩,h4⟩,h5⟩:=h;subst h1;obtain⟨x,np,ap,j1,p2,j2,p3,cp,rfl,k1,k2,k3,k4,k5,k6⟩:=tJ h4;exact qU (wo (iE_a _ o h2) (iE_b _ o h3) (by rw[o.names];exact k2) (o.vis k3) (b7 k4).1 (b7 k4).2 k5 k6 k1 (iL_r _ o h5))
  ·cases h
theorem zq(hCX:HX CX){f a b:CE}{i:Nat}{c d:Str}{r:CL}(iE_f:IHE CX G f)(iE_a:IHE CX G a)(iE_b:IHE CX G b)(iL_r:IHL CX G r):IHE CX G (.lstR1 f a b i c d r):=by
  intro e E sc N all X o h;unfold aF at h;split at h
  ·simp only[ae,decide_eq_true_eq]at h
   obtain⟨⟨⟨⟨⟨h0,h1⟩,h2⟩,h3⟩,h4⟩,h5⟩:=h;subst h1;obtain⟨x,np,ap,j1,p2,j2,p3,cp,rfl,k1,k2,k3,k4,k5,k6⟩:=tJ h4;exact qU (eD (iE_f _ o h0) (wo (iE_a _ o h2) (iE_b _ o h3) (by rw[o.names];exact k2) (o.vis k3) (b7 k4).1 (b7 k4).2 k5 k6 k1 (iL_r _ o h5)) (a9 h0 _ _))
  ·cases h
theorem sE_mkf(hCX:HX CX){x:Str}{es:CL}{f:Str}(iL_es:IHL CX G es):IHE CX G (.mkf x es f):=by
  intro e E sc N all X o h;unfold aF at h;split at h
  ·rename_i x' np e' es' cp f' p
   simp only[ae,decide_eq_true_eq]at h;obtain⟨⟨⟨⟨h1,h2⟩,h3⟩,h4⟩,h5⟩:=h;subst h1 h2;intro pins s σ H Q I hw;obtain⟨C,sp,dvs,hv,hw⟩:=hw;obtain⟨f',fd,ps,ds,k,hM,F,hr,hu,hb,hd⟩:=o.ini _ _ _ _ _ hv;have hs:aB (e'::es') X.env=(false,eval e' X.env)::aB es' X.env/\(backTo cp (aB es' X.env)).any (·.1)=false:=by
    cases es with
    |nil=>exact absurd (cP h5) (by simp)
    |cons c r=>
     obtain⟨e1',r1,q,g1,g2⟩:=cn h5;cases q;exact⟨a9 g1 _ _,cq g2 _ _⟩
   exact pe_mkf hM F hr hb hd o.pass (o.gl h3) hu (iL_es _ o h5) (b7 h4).1 hs.1 hs.2 pins s σ H Q I hw
  ·cases h
theorem sT_lstR(hCX:HX CX){a b:CE}{i:Nat}{c d:Str}{r:CL}:IHT CX G (.lstR a b i c d r):=by
  intro _ _ _ _ _ _ _ _;exact fun _ _ _ _ _ _ z=>z.elim
theorem sW_lstR(hCX:HX CX){a b:CE}{i:Nat}{c d:Str}{r:CL}:IHW CX G (.lstR a b i c d r):=by
  intro _ _ _ _ _ _ _ _ _ h;exact absurd h (by simp[aF])
theorem zh(hCX:HX CX){f a b:CE}{i:Nat}{c d:Str}{r:CL}:IHT CX G (.lstR1 f a b i c d r):=by
  intro _ _ _ _ _ _ _ _;exact fun _ _ _ _ _ _ z=>z.elim
theorem zb(hCX:HX CX){f a b:CE}{i:Nat}{c d:Str}{r:CL}:IHW CX G (.lstR1 f a b i c d r):=by
  intro _ _ _ _ _ _ _ _ _ h;exact absurd h (by simp[aF])
theorem sT_mkf(hCX:HX CX){x:Str}{es:CL}{f:Str}:IHT CX G (.mkf x es f):=by
  intro _ _ _ _ _ _ _ _;exact fun _ _ _ _ _ _ z=>z.elim
theorem sW_mkf(hCX:HX CX){x:Str}{es:CL}{f:Str}:IHW CX G (.mkf x es f):=by
  intro _ _ _ _ _ _ _ _ _ h;exact absurd h (by simp[aF])
theorem sT_join(hCX:HX CX){sep:Str}{a:CE}:IHT CX G (.join sep a):=by
  intro _ _ _ _ _ _ _ _;exact fun _ _ _ _ _ _ z=>z.elim
theorem sW_join(hCX:HX CX){sep:Str}{a:CE}:IHW CX G (.join sep a):=by
  intro _ _ _ _ _ _ _ _ _ h;exact absurd h (by simp[aF,isStr])
theorem sE_comp(hCX:HX CX){own:List Str}{fr:List Nat}{tg:CG}{it:CI}{cond:CO}{elt:CE}(iI_it:IHI CX G it)(iG_tg:IHG CX G tg)(iC_cond:IHC CX G cond)(iE_elt:IHE CX G elt):IHE CX G (.comp own fr tg it cond elt):=by
  intro e E sc N all X o h;unfold aF at h;split at h
  ·rename_i elt' tg' it' ifs' sc' pos
   simp only[ae]at h;obtain⟨⟨⟨⟨⟨h1,h2⟩,h3⟩,h4⟩,h5⟩,h6⟩:=h;have S:=nr h1;exact pe_comp (S.comp o) (S.mkOk o) o.calm (iI_it _ _ o h3)
    (fun C s₀ H₀ fp _=>⟨iG_tg _ (o.comp hCX S C s₀ H₀ fp) h4,iC_cond _ (o.comp hCX S C s₀ H₀ fp) h5,iE_elt _ (o.comp hCX S C s₀ H₀ fp) h6⟩) (rb (iH h2) _)
  ·cases h
theorem sT_cmp(hCX:HX CX){op:CmpOp}{a:CE}{b:CE}(iE_a:IHE CX G a)(iE_b:IHE CX G b):IHT CX G (.cmp op a b):=by
  intro e E sc N all X o h;unfold aF at h;split at h
  ·rw[ae]at h
   obtain⟨h,h4⟩:=h;obtain⟨h1,h2,h3⟩:=du h;rw[decide_eq_true_eq]at h1;subst h1;exact pt_cmpR (jk o.hu op) (iE_a _ o h3) (iE_b _ o h4) (gU (iH h2) op)
  ·cases h
theorem zi(hCX:HX CX){o1:CmpOp}{o2:CmpOp}{a:CE}{b:CE}{c:CE}(iE_a:IHE CX G a)(iE_b:IHE CX G b)(iE_c:IHE CX G c):IHT CX G (.chain o1 o2 a b c):=by
  intro e E sc N all X o h;unfold aF at h;split at h
  ·simp only[ae,decide_eq_true_eq]at h
   obtain⟨⟨⟨⟨⟨h1,h2⟩,h3⟩,h4⟩,h5⟩,h6⟩:=h;subst h1 h2;exact zD (jk o.hu o1) (jk o.hu o2) (iE_a _ o h4) (iE_b _ o h5) (iE_c _ o h6) (gU (iH h3) o2)
  ·cases h
theorem sT_not(hCX:HX CX){a:CE}(iT_a:IHT CX G a):IHT CX G (.not a):=by
  intro e E sc N all X o h;unfold aF at h;split at h
  ·skip
   exact pt_not (iT_a _ o h)
  ·cases h
theorem sT_and(hCX:HX CX){a:CE}{b:CE}(iT_a:IHT CX G a)(iT_b:IHT CX G b)(iW_b:IHW CX G b):IHT CX G (.and a b):=by
  intro e E sc N all X o h;unfold aF at h;split at h
  ·rw[ae]at h
   exact(qP (iT_a _ o h.1) (wb (iT_b _ o h.2))).pt
  ·rw[ae]at h
   exact(qP (iT_a _ o h.1) (iW_b _ _ _ o h.2)).pt
  ·cases h
theorem sT_or(hCX:HX CX){a:CE}{b:CE}(iT_a:IHT CX G a)(iT_b:IHT CX G b)(iW_b:IHW CX G b):IHT CX G (.or a b):=by
  intro e E sc N all X o h;unfold aF at h;split at h
  ·rw[ae]at h
   exact(wa (iT_a _ o h.1) (zB (iT_b _ o h.2))).pt
  ·rw[ae]at h
   exact(wa (iT_a _ o h.1) (iW_b _ _ _ o h.2)).pt
  ·cases h
theorem sT_var(hCX:HX CX){i:Nat}:IHT CX G (.var i):=by
  intro e E sc N all X o h;have hv:=h;unfold aF at h;split at h
  ·obtain⟨h1,h2,h3⟩:=du h
   obtain⟨d1,d2⟩:=b7 h3;exact kq (u7 (by rw[o.names];exact beq_iff_eq.mp h1) (o.vis h2) d1 d2) fun _=>rfl
  ·cases h
theorem sT_con(hCX:HX CX){c:Const}:IHT CX G (.con c):=by
  intro e E sc N all X o h;have q:=zr hCX e o h;unfold aF at h;split at h
  ·skip
   skip
   exact kq q fun _=>rfl
  ·cases h
theorem sT_glo(hCX:HX CX){x:Str}:IHT CX G (.glo x):=by
  intro e E sc N all X o h;unfold aF at h;split at h
  ·obtain⟨h1,h2,h3⟩:=du h
   rw[decide_eq_true_eq]at h1;subst h1;refine qQ ?_ (fun _=>rfl);intro pins s σ H Q I hw;obtain⟨v,hv,q⟩:=hw;obtain⟨u,hu,r⟩:=o.val _ _ hv;exact qV (o.gl h2) hu r (b7 h3).1 pins s σ H Q I q
  ·cases h
theorem sT_idx(hCX:HX CX){a:CE}{i:CE}(iE_a:IHE CX G a)(iE_i:IHE CX G i):IHT CX G (.idx a i):=by
  intro e E sc N all X o h;unfold aF at h;split at h
  ·obtain⟨h1,h2,h3⟩:=du h
   exact kq (zP Am (iE_a _ o h2) (iE_i _ o h3) (nA (iH h1))) fun _=>rfl
  ·cases h
theorem sT_call(hCX:HX CX){f:Str}{es:CL}(iL_es:IHL CX G es):IHT CX G (.call f es):=by
  intro e E sc N all X o h;unfold aF at h;split at h
  ·rename_i f' np es' pos
   rw[ae]at h;obtain⟨h,h4⟩:=h;obtain⟨h1,h2,h3⟩:=du h;rw[decide_eq_true_eq]at h1;subst h1;refine qQ ?_ (fun _=>rfl);intro pins s σ H Q I hw;obtain⟨sp,dvs,hf,hw⟩:=hw;obtain⟨fa,fd,ps,ds,k,F,hr,hm,hk,hb,hd⟩:=o.fn _ _ _ _ hf;cases es with
   |nil=>
    have e0:=cP h4;subst e0;exact pX F hr (o.gl h2) hm hk hb hd o.pass (b7 h3).1 pins s σ H Q I hw
   |cons c r=>
    have hL:=iL_es _ o h4;obtain⟨e1,r1,rfl,g1,g2⟩:=cn h4;exact sT F hr (o.gl h2) hm hk hb hd o.pass hL (b7 h3).1 (a9 g1 _ _) (cq g2 _ _) pins s σ H Q I hw
  ·cases h
theorem sT_bfn(hCX:HX CX){b:Bf}{es:CL}(iL_es:IHL CX G es):IHT CX G (.bfn b es):=by
  intro e E sc N all X o h;unfold aF at h;split at h
  ·rename_i f' np e1 es' pos
   obtain⟨h1,h2,h3⟩:=du h;rw[decide_eq_true_eq]at h1;subst h1;have hL:=iL_es _ o h3;have hs:aB (e1::es') X.env=(false,eval e1 X.env)::aB es' X.env/\(backTo pos (aB es' X.env)).any (·.1)=false:=by
    cases es with
    |nil=>exact absurd (cP h3) (by simp)
    |cons c r=>
     obtain⟨e1',r1,q,g1,g2⟩:=cn h3;cases q;exact⟨a9 g1 _ _,cq g2 _ _⟩
   have hB:=zA (X:=X) o.calm o.hu b;have hv:=b.boot;refine qQ ?_ (fun _=>rfl);cases b with
   |list=>exact ee hB (o.gl h2) (o.blt _ (Bf.mem _)) hv hL (Bf.plain _).1 (Bf.plain _).2 hs.1 hs.2
   |tuple=>exact ee hB (o.gl h2) (o.blt _ (Bf.mem _)) hv hL (Bf.plain _).1 (Bf.plain _).2 hs.1 hs.2
   |len=>exact dS hB (o.gl h2) (o.blt _ (Bf.mem _)) hv hL (Bf.plain _).1 (Bf.plain _).2 hs.1 hs.2
   |isinstance=>exact dS hB (o.gl h2) (o.blt _ (Bf.mem _)) hv hL (Bf.plain _).1 (Bf.plain _).2 hs.1 hs.2
   |all=>exact dS hB (o.gl h2) (o.blt _ (Bf.mem _)) hv hL (Bf.plain _).1 (Bf.plain _).2 hs.1 hs.2
   |set=>exact ee hB (o.gl h2) (o.blt _ (Bf.mem _)) hv hL (Bf.plain _).1 (Bf.plain _).2 hs.1 hs.2
   |isx=>exact dS hB (o.gl h2) (o.blt _ (Bf.mem _)) hv hL (Bf.plain _).1 (Bf.plain _).2 hs.1 hs.2
   |int=>exact ee hB (o.gl h2) (o.blt _ (Bf.mem _)) hv hL (Bf.plain _).1 (Bf.plain _).2 hs.1 hs.2
  ·cases h
theorem sT_ite(hCX:HX CX){c:CE}{a:CE}{b:CE}:IHT CX G (.ite c a b):=by
  intro _ _ _ _ _ _ _ _;exact fun _ _ _ _ _ _ z=>z.elim
theorem sT_ty(hCX:HX CX){t:Ty}:IHT CX G (.ty t):=by
  intro _ _ _ _ _ _ _ _;exact fun _ _ _ _ _ _ z=>z.elim
theorem sT_bin(hCX:HX CX){op:Operator}{a:CE}{b:CE}:IHT CX G (.bin op a b):=by
  intro _ _ _ _ _ _ _ _;exact fun _ _ _ _ _ _ z=>z.elim
theorem sT_un(hCX:HX CX){op:wV}{a:CE}:IHT CX G (.un op a):=by
  intro _ _ _ _ _ _ _ _;exact fun _ _ _ _ _ _ z=>z.elim
theorem sT_cut(hCX:HX CX){a:CE}{lo:CO}{hi:CO}:IHT CX G (.cut a lo hi):=by
  intro _ _ _ _ _ _ _ _;exact fun _ _ _ _ _ _ z=>z.elim
theorem sT_tup(hCX:HX CX){es:CL}:IHT CX G (.tup es):=by
  intro _ _ _ _ _ _ _ _;exact fun _ _ _ _ _ _ z=>z.elim
theorem sT_lst(hCX:HX CX){es:CL}:IHT CX G (.lst es):=by
  intro _ _ _ _ _ _ _ _;exact fun _ _ _ _ _ _ z=>z.elim
theorem zg(hCX:HX CX){m:Mm}{b:CE}:IHT CX G (.meth0 m b):=by
  intro _ _ _ _ _ _ _ _;exact fun _ _ _ _ _ _ z=>z.elim
theorem zf(hCX:HX CX){m:Mm}{b:CE}{a:CE}:IHT CX G (.meth1 m b a):=by
  intro _ _ _ _ _ _ _ _;exact fun _ _ _ _ _ _ z=>z.elim
theorem sT_comp(hCX:HX CX){own:List Str}{fr:List Nat}{tg:CG}{it:CI}{cond:CO}{elt:CE}:IHT CX G (.comp own fr tg it cond elt):=by
  intro _ _ _ _ _ _ _ _;exact fun _ _ _ _ _ _ z=>z.elim
theorem sW_and(hCX:HX CX){a:CE}{b:CE}(iT_a:IHT CX G a)(iT_b:IHT CX G b)(iW_b:IHW CX G b):IHW CX G (.and a b):=by
  intro op es pos E sc N all X o h;unfold aF at h;split at h
  ·rename_i heq
   cases heq;rw[ae]at h;exact qP (iT_a _ o h.1) (wb (iT_b _ o h.2))
  ·rename_i heq
   cases heq;rw[ae]at h;exact qP (iT_a _ o h.1) (iW_b _ _ _ o h.2)
  ·cases h
theorem sW_or(hCX:HX CX){a:CE}{b:CE}(iT_a:IHT CX G a)(iT_b:IHT CX G b)(iW_b:IHW CX G b):IHW CX G (.or a b):=by
  intro op es pos E sc N all X o h;unfold aF at h;split at h
  ·rename_i heq
   cases heq;rw[ae]at h;exact wa (iT_a _ o h.1) (zB (iT_b _ o h.2))
  ·rename_i heq
   cases heq;rw[ae]at h;exact wa (iT_a _ o h.1) (iW_b _ _ _ o h.2)
  ·cases h
theorem sW_var(hCX:HX CX){i:Nat}:IHW CX G (.var i):=by
  intro _ _ _ _ _ _ _ _ _ h;exact absurd h (by simp[aF])
theorem sW_con(hCX:HX CX){c:Const}:IHW CX G (.con c):=by
  intro _ _ _ _ _ _ _ _ _ h;exact absurd h (by simp[aF])
theorem sW_glo(hCX:HX CX){x:Str}:IHW CX G (.glo x):=by
  intro _ _ _ _ _ _ _ _ _ h;exact absurd h (by simp[aF])
theorem sW_ty(hCX:HX CX){t:Ty}:IHW CX G (.ty t):=by
  intro _ _ _ _ _ _ _ _ _ h;exact absurd h (by simp[aF])
theorem sW_bin(hCX:HX CX){op:Operator}{a:CE}{b:CE}:IHW CX G (.bin op a b):=by
  intro _ _ _ _ _ _ _ _ _ h;exact absurd h (by simp[aF])
theorem sW_un(hCX:HX CX){op:wV}{a:CE}:IHW CX G (.un op a):=by
  intro _ _ _ _ _ _ _ _ _ h;exact absurd h (by simp[aF])
theorem sW_cmp(hCX:HX CX){op:CmpOp}{a:CE}{b:CE}:IHW CX G (.cmp op a b):=by
  intro _ _ _ _ _ _ _ _ _ h;exact absurd h (by simp[aF])
theorem zc(hCX:HX CX){o1:CmpOp}{o2:CmpOp}{a:CE}{b:CE}{c:CE}:IHW CX G (.chain o1 o2 a b c):=by
  intro _ _ _ _ _ _ _ _ _ h;exact absurd h (by simp[aF])
theorem sW_not(hCX:HX CX){a:CE}:IHW CX G (.not a):=by
  intro _ _ _ _ _ _ _ _ _ h;exact absurd h (by simp[aF])
theorem sW_ite(hCX:HX CX){c:CE}{a:CE}{b:CE}:IHW CX G (.ite c a b):=by
  intro _ _ _ _ _ _ _ _ _ h;exact absurd h (by simp[aF])
theorem sW_idx(hCX:HX CX){a:CE}{i:CE}:IHW CX G (.idx a i):=by
  intro _ _ _ _ _ _ _ _ _ h;exact absurd h (by simp[aF])
theorem sW_cut(hCX:HX CX){a:CE}{lo:CO}{hi:CO}:IHW CX G (.cut a lo hi):=by
  intro _ _ _ _ _ _ _ _ _ h;exact absurd h (by simp[aF])
theorem sW_tup(hCX:HX CX){es:CL}:IHW CX G (.tup es):=by
  intro _ _ _ _ _ _ _ _ _ h;exact absurd h (by simp[aF])
theorem sW_lst(hCX:HX CX){es:CL}:IHW CX G (.lst es):=by
  intro _ _ _ _ _ _ _ _ _ h;exact absurd h (by simp[aF])
theorem sW_call(hCX:HX CX){f:Str}{es:CL}:IHW CX G (.call f es):=by
  intro _ _ _ _ _ _ _ _ _ h;exact absurd h (by simp[aF])
theorem sW_bfn(hCX:HX CX){b:Bf}{es:CL}:IHW CX G (.bfn b es):=by
  intro _ _ _ _ _ _ _ _ _ h;exact absurd h (by simp[aF])
theorem za(hCX:HX CX){m:Mm}{b:CE}:IHW CX G (.meth0 m b):=by
  intro _ _ _ _ _ _ _ _ _ h;exact absurd h (by simp[aF])
theorem y9(hCX:HX CX){m:Mm}{b:CE}{a:CE}:IHW CX G (.meth1 m b a):=by
  intro _ _ _ _ _ _ _ _ _ h;exact absurd h (by simp[aF])
theorem sW_comp(hCX:HX CX){own:List Str}{fr:List Nat}{tg:CG}{it:CI}{cond:CO}{elt:CE}:IHW CX G (.comp own fr tg it cond elt):=by
  intro _ _ _ _ _ _ _ _ _ h;exact absurd h (by simp[aF])
theorem sL_nil(hCX:HX CX):IHL CX G (.nil):=by
  intro es E sc N all X o h;rw[cP h];exact hO
theorem sL_cons(hCX:HX CX){c:CE}{r:CL}(iE_c:IHE CX G c)(iL_r:IHL CX G r):IHL CX G (.cons c r):=by
  intro es E sc N all X o h;obtain⟨e',r',rfl,h1,h2⟩:=cn h;exact eD (iE_c _ o h1) (iL_r _ o h2) (a9 h1 _ _)
theorem sP_nil(hCX:HX CX):IHP CX G (.nil):=by
  intro ks vs E sc N all X o h pos;have q:ks=[]/\vs=[]:=by
   cases ks with
   |nil=>cases vs with
    |nil=>exact⟨rfl,rfl⟩
    |cons a b=>exact absurd h (by simp[AI])
   |cons a b=>exact absurd h (by simp[AI])
  obtain⟨rfl,rfl⟩:=q;exact⟨pps_nil,rfl,rfl,fun z=>absurd rfl z⟩
theorem sP_cons(hCX:HX CX){k:CE}{v:CE}{r:CP}(iP_r:IHP CX G r)(iE_k:IHE CX G k)(iE_v:IHE CX G v):IHP CX G (.cons k v r):=by
  intro ks vs E sc N all X o h pos;unfold AI at h;split at h
  ·obtain⟨h1,h2,h3⟩:=du h
   obtain⟨p1,p2,p3,_⟩:=iP_r _ _ o h3 pos;exact⟨zI (iE_k _ o h1) (iE_v _ o h2) p1,by simp[p2],by simp[p3],fun _=>by simp⟩
  ·cases h
theorem sO_no(hCX:HX CX):IHO CX G (.no):=by
  intro e E sc N all X o h;unfold AJ at h;split at h
  ·exact po_none
  ·cases h
theorem sO_yes(hCX:HX CX){c:CE}(iE_c:IHE CX G c):IHO CX G (.yes c):=by
  intro e E sc N all X o h;unfold AJ at h;split at h
  ·exact po_some (iE_c _ o h)
  ·cases h
theorem sC_no(hCX:HX CX):IHC CX G (.no):=by
  intro e E sc N all X o h;unfold chkC at h;split at h
  ·exact pts_nil
  ·cases h
theorem sC_yes(hCX:HX CX){c:CE}(iT_c:IHT CX G c):IHC CX G (.yes c):=by
  intro e E sc N all X o h;unfold chkC at h;split at h
  ·exact pts_one (iT_c _ o h)
  ·cases h
theorem sG_name(hCX:HX CX){i:Nat}:IHG CX G (.name i):=by
  intro e E sc N all X o h;unfold j6 at h;split at h
  ·rename_i x p
   rw[ae,bK,beq_iff_eq,beq_iff_eq,beq_iff_eq]at h;obtain⟨h1,h2⟩:=h;refine qT (by rw[o.names];exact o.nd) (by rw[o.names];exact h1) ?_ ?_
   ·rcases h2 with q|q
    ·exact .inl (o.loc x q)
    ·exact .inr (o.cel x q)
   ·rcases h2 with q|q
    ·exact .inr (o.loc x q)
    ·exact .inl (o.own x q)
  ·cases h
theorem sG_tup(hCX:HX CX){gs:CGs}(iGs_gs:AU CX G gs):IHG CX G (.tup gs):=by
  intro e E sc N all X o h;unfold j6 at h;split at h
  ·obtain⟨a,b⟩:=mj h X.env
   exact pg_tup o.calm (iGs_gs _ o h) a b
  ·cases h
theorem sG_sub(hCX:HX CX){ob:CE}{i:CE}(iE_ob:IHE CX G ob)(iE_i:IHE CX G i):IHG CX G (.sub ob i):=by
  intro e E sc N all X o h;unfold j6 at h;split at h
  ·rename_i o' i' pos
   obtain⟨h1,h2,h3⟩:=du h;refine pg_sub (iE_ob _ o h2) (iE_i _ o h3) set_list fun v=>?_;cases i'<;>first
    |rfl
    | (exact absurd h1 (by simp[jo]))
  ·cases h
theorem sGs_nil(hCX:HX CX):AU CX G (.nil):=by
  intro es E sc N all X o h;rw[qk h];exact pgs_nil
theorem zk(hCX:HX CX){c:CG}{r:CGs}(iG_c:IHG CX G c)(iGs_r:AU CX G r):AU CX G (.cons c r):=by
  intro es E sc N all X o h;obtain⟨e',r',rfl,h1,h2⟩:=oK h;exact zK (iG_c _ o h1) (iGs_r _ o h2) (by rw[nK h1];rfl)
theorem sI_seq(hCX:HX CX){c:CE}(iE_c:IHE CX G c):IHI CX G (.seq c):=by
  intro e tg E sc N all X o h;unfold rH at h;exact pi_any (iE_c _ o h)
theorem sI_lseq(hCX:HX CX){c:CE}(iE_c:IHE CX G c):IHI CX G (.lseq c):=by
  intro e tg E sc N all X o h;unfold rH at h;exact pi_list (iE_c _ o h)
theorem sI_tseq(hCX:HX CX){c:CE}(iE_c:IHE CX G c):IHI CX G (.tseq c):=by
  intro e tg E sc N all X o h;unfold rH at h;exact pi_tup (iE_c _ o h)
theorem xx(hCX:HX CX){c:CE}(iE_c:IHE CX G c):IHI CX G (.range1 c):=by
  intro e tg E sc N all X o h;unfold rH at h;split at h
  ·obtain⟨h1,h2,h3⟩:=du h
   rw[decide_eq_true_eq]at h1;subst h1;exact xD (o.gl h2) (o.blt _ (by decide+kernel)) (eD (iE_c _ o h3) hO (a9 h3 _ _)) (a9 h3 _ _)
  ·cases h
theorem xw(hCX:HX CX){a:CE}{b:CE}(iE_a:IHE CX G a)(iE_b:IHE CX G b):IHI CX G (.range2 a b):=by
  intro e tg E sc N all X o h;unfold rH at h;split at h
  ·rw[ae]at h
   obtain⟨h,h4⟩:=h;obtain⟨h1,h2,h3⟩:=du h;rw[decide_eq_true_eq]at h1;subst h1;exact xC (o.gl h2) (o.blt _ (by decide+kernel)) (eD (iE_a _ o h3) (eD (iE_b _ o h4) hO (a9 h4 _ _)) (a9 h3 _ _)) (by rw[a9 h3,a9 h4];rfl) (a9 h4 _ _)
  ·cases h
theorem sI_enum(hCX:HX CX){c:CE}(iE_c:IHE CX G c):IHI CX G (.enum c):=by
  intro e tg E sc N all X o h;unfold rH at h;split at h
  ·rw[ae]at h
   obtain⟨h,h4⟩:=h;obtain⟨h1,h2,h3⟩:=du h;rw[decide_eq_true_eq]at h1;subst h1;cases tg<;>first
    |exact pi_enum (o.gl h2) (o.blt _ (by decide+kernel)) (iE_c _ o h3) (a9 h3 _ _)
    | (exact absurd h4 (by simp[jV]))
  ·cases h
mutual
theorem aR(hCX:HX CX):∀c:CE,IHE CX G c
 |.var i=>sE_var hCX
 |.con c=>zr hCX
 |.glo x=>sE_glo hCX
 |.ty t=>sE_ty hCX
 |.bin op a b=>sE_bin hCX (aR hCX a) (aR hCX b)
 |.un op a=>sE_un hCX (aR hCX a)
 |.cmp op a b=>sE_cmp hCX (aR hCX a) (aR hCX b)
 |.chain o1 o2 a b c=>zt hCX (aR hCX a) (aR hCX b) (aR hCX c)
 |.not a=>sE_not hCX (aR hCX a)
 |.and a b=>sE_and hCX (aR hCX a) (aR hCX b)
 |.or a b=>sE_or hCX (aR hCX a) (aR hCX b)
 |.ite c a b=>sE_ite hCX (fF hCX c) (aR hCX a) (aR hCX b)
 |.idx a i=>sE_idx hCX (aR hCX a) (aR hCX i)
 |.cut a lo hi=>sE_cut hCX (aR hCX a) (yY hCX lo) (yY hCX hi)
 |.tup es=>sE_tup hCX (eU hCX es)
 |.lst es=>sE_lst hCX (eU hCX es)
 |.call f es=>sE_call hCX (eU hCX es)
 |.bfn b es=>sE_bfn hCX (eU hCX es)
 |.meth0 m b=>zp hCX (aR hCX b)
 |.meth1 m b a=>zo hCX (aR hCX b) (aR hCX a)
 |.join sep a=>sE_join hCX (aR hCX a)
 |.split b a=>zm hCX (aR hCX b) (aR hCX a)
 |.upper b=>zl hCX (aR hCX b)
 |.base x es=>sE_base hCX (eU hCX es)
 |.fld a f=>sE_fld hCX (aR hCX a)
 |.inG a b=>sE_inG hCX (aR hCX a) (aR hCX b)
 |.idxG a i=>sE_idxG hCX (aR hCX a) (aR hCX i)
 |.fstr pre post a=>sE_fstr hCX (aR hCX a)
 |.lstR a b _ _ _ r=>sE_lstR hCX (aR hCX a) (aR hCX b) (eU hCX r)
 |.lstR1 f a b _ _ _ r=>zq hCX (aR hCX f) (aR hCX a) (aR hCX b) (eU hCX r)
 |.mkf _ es _=>sE_mkf hCX (eU hCX es)
 |.comp own fr tg it cond elt=>sE_comp hCX (uT hCX it) (ni hCX tg) (yZ hCX cond) (aR hCX elt)
theorem fF(hCX:HX CX):∀c:CE,IHT CX G c
 |.cmp op a b=>sT_cmp hCX (aR hCX a) (aR hCX b)
 |.chain o1 o2 a b c=>zi hCX (aR hCX a) (aR hCX b) (aR hCX c)
 |.not a=>sT_not hCX (fF hCX a)
 |.and a b=>sT_and hCX (fF hCX a) (fF hCX b) (qG hCX b)
 |.or a b=>sT_or hCX (fF hCX a) (fF hCX b) (qG hCX b)
 |.var i=>sT_var hCX
 |.con c=>sT_con hCX
 |.glo x=>sT_glo hCX
 |.idx a i=>sT_idx hCX (aR hCX a) (aR hCX i)
 |.call f es=>sT_call hCX (eU hCX es)
 |.bfn b es=>sT_bfn hCX (eU hCX es)
 |.ite c a b=>sT_ite hCX
 |.ty t=>sT_ty hCX
 |.bin op a b=>sT_bin hCX
 |.un op a=>sT_un hCX
 |.cut a lo hi=>sT_cut hCX
 |.tup es=>sT_tup hCX
 |.lst es=>sT_lst hCX
 |.meth0 m b=>zg hCX
 |.meth1 m b a=>zf hCX
 |.join sep a=>sT_join hCX
 |.split b a=>ze hCX
 |.upper b=>zd hCX
 |.base x es=>sT_base hCX
 |.fld a f=>sT_fld hCX
 |.inG a b=>sT_inG hCX
 |.idxG a i=>sT_idxG hCX
 |.fstr pre post a=>sT_fstr hCX
 |.lstR _ _ _ _ _ _=>sT_lstR hCX
 |.lstR1 _ _ _ _ _ _ _=>zh hCX
 |.mkf _ _ _=>sT_mkf hCX
 |.comp own fr tg it cond elt=>sT_comp hCX
theorem qG(hCX:HX CX):∀c:CE,IHW CX G c
 |.and a b=>sW_and hCX (fF hCX a) (fF hCX b) (qG hCX b)
 |.or a b=>sW_or hCX (fF hCX a) (fF hCX b) (qG hCX b)
 |.var i=>sW_var hCX
 |.con c=>sW_con hCX
 |.glo x=>sW_glo hCX
 |.ty t=>sW_ty hCX
 |.bin op a b=>sW_bin hCX
 |.un op a=>sW_un hCX
 |.cmp op a b=>sW_cmp hCX
 |.chain o1 o2 a b c=>zc hCX
 |.not a=>sW_not hCX
 |.ite c a b=>sW_ite hCX
 |.idx a i=>sW_idx hCX
 |.cut a lo hi=>sW_cut hCX
 |.tup es=>sW_tup hCX
 |.lst es=>sW_lst hCX
 |.call f es=>sW_call hCX
 |.bfn b es=>sW_bfn hCX
 |.meth0 m b=>za hCX
 |.meth1 m b a=>y9 hCX
 |.join sep a=>sW_join hCX
 |.split b a=>y8 hCX
 |.upper b=>y6 hCX
 |.base x es=>sW_base hCX
 |.fld a f=>sW_fld hCX
 |.inG a b=>sW_inG hCX
 |.idxG a i=>sW_idxG hCX
 |.fstr pre post a=>sW_fstr hCX
 |.lstR _ _ _ _ _ _=>sW_lstR hCX
 |.lstR1 _ _ _ _ _ _ _=>zb hCX
 |.mkf _ _ _=>sW_mkf hCX
 |.comp own fr tg it cond elt=>sW_comp hCX
theorem eU(hCX:HX CX):∀c:CL,IHL CX G c
 |.nil=>sL_nil hCX
 |.cons c r=>sL_cons hCX (aR hCX c) (eU hCX r)
theorem soundP(hCX:HX CX):∀c:CP,IHP CX G c
 |.nil=>sP_nil hCX
 |.cons k v r=>sP_cons hCX (soundP hCX r) (aR hCX k) (aR hCX v)
theorem yY(hCX:HX CX):∀c:CO,IHO CX G c
 |.no=>sO_no hCX
 |.yes c=>sO_yes hCX (aR hCX c)
theorem yZ(hCX:HX CX):∀c:CO,IHC CX G c
 |.no=>sC_no hCX
 |.yes c=>sC_yes hCX (fF hCX c)
theorem ni(hCX:HX CX):∀c:CG,IHG CX G c
 |.name i=>sG_name hCX
 |.tup gs=>sG_tup hCX (vN hCX gs)
 |.sub ob i=>sG_sub hCX (aR hCX ob) (aR hCX i)
theorem vN(hCX:HX CX):∀c:CGs,AU CX G c
 |.nil=>sGs_nil hCX
 |.cons c r=>zk hCX (ni hCX c) (vN hCX r)
theorem uT(hCX:HX CX):∀c:CI,IHI CX G c
 |.seq c=>sI_seq hCX (aR hCX c)
 |.lseq c=>sI_lseq hCX (aR hCX c)
 |.tseq c=>sI_tseq hCX (aR hCX c)
 |.range1 c=>xx hCX (aR hCX c)
 |.range2 a b=>xw hCX (aR hCX a) (aR hCX b)
 |.enum c=>sI_enum hCX (aR hCX c)
end
end
section
variable {CX:CXT}{G:Gam}
theorem vg{sc:Scope}{N:List Str}{all:Bool}{g:CG}{tg e:Expr}(h:j6 sc N all g tg=true)(hn:(jV tg&&jV e)=false)(env:Env):swappedStores [tg] e env=pure none:=by
 cases tg with
 |Tuple es k p=>
  cases e<;>first
   |rfl
   | (exact absurd hn (by simp[jV]))
 |List es p=>cases g<;>exact absurd h (by simp[j6])
 |_=>rfl
theorem sH{a:Expr}{b:List Comprehension}{c:Scope}{d p:Pos}{x:Str}{l:Nat}{env:Env}(h:env.kindOf x≠some .local):kb (.ListComp a b c d) (some (.Name x p)) l env=pure false:=by
 show(pure (env.blockKind== .function&&env.kindOf x==some .local&&p.line==d.line&& !(c.names.any fun(n,k)=>n==x&&(k== .local||k== .cell))):Sem Bool)=pure false;have e:(env.kindOf x==some cu.local)=false:=by simpa using h
 rw[e,dQ,bT,bT]
theorem uO{a:Expr}{b:List Comprehension}{c:Scope}{d p:Pos}{x:Str}{l:Nat}{env:Env}(hk:env.scope.kind=.function)(h:env.kindOf x=some .local)(hl:p.line=d.line)
  (hn:(c.names.any fun y=>decide (y.1=x)&&(decide (y.2=.local)||decide (y.2=.cell)))=false):kb (.ListComp a b c d) (some (.Name x p)) l env=pure true:=by
 show(pure (env.blockKind== .function&&env.kindOf x==some .local&&p.line==d.line&& !(c.names.any fun(n,k)=>n==x&&(k== .local||k== .cell))):Sem Bool)=pure true;have e1:env.blockKind=.function:=by unfold Env.blockKind;rw[hk];rfl
 have e2:(c.names.any fun(n,k)=>n==x&&(k==cu.local||k==bE))=false:=by
  rw[<-hn];congr 1
 rw[e1,h,hl,e2];simp
theorem vz{sc:Scope}{N:List Str}{c:CE}{a:Expr}{b:List Comprehension}{s:Scope}{d:Pos}(h:aF sc N c (.ListComp a b s d)=true):∃own fr tg it cond elt,c=.comp own fr tg it cond elt:=by
 cases c with
 |comp own fr tg it cond elt=>exact⟨_,_,_,_,_,_,rfl⟩
 |_=>exact absurd h (by simp[aF])
theorem z3{e:Expr}(h:lH e=false)(tg:Expr)(l:Nat)(env:Env):AV [tg] e l env=pure false:=by
 unfold AV;exact ku h _ _ _
structure OkL(G:Gam)(sc:Scope)(N:List Str)(X:Cx):Prop where
 names:X.N=N
 nd:N.Nodup
 loc:∀x,sc.names.lookup x=some .local->X.env.scope.names.lookup x=some .local
 cel:∀x,sc.names.lookup x=some .cell->X.env.scope.names.lookup x=some .cell
 fre:∀x,sc.names.lookup x=some .free->X.env.scope.names.lookup x=some .cell\/X.env.scope.names.lookup x=some .free
 glo:∀x,sc.names.lookup x=some .globalImplicit->X.env.scope.names.lookup x=some .globalImplicit
 all:∀x,X.fn x=true
 val:∀x v,G.val x=some v->∃u,X.mg x=some u/\RelV v u
 blt:∀x∈fq,X.mg x=none
theorem OkL.vis{sc:Scope}{N:List Str}{X:Cx}(o:OkL G sc N X){x:Str}(h:oa sc x=true):Vis X.env.scope x:=by
 unfold oa at h;rw[bK,bK,beq_iff_eq,beq_iff_eq,beq_iff_eq]at h;rcases h with(h|h) |h
 ·exact .inl (o.loc x h)
 ·exact .inr (.inl (o.cel x h))
 ·rcases o.fre x h with q|q
  ·exact .inr (.inl q)
  ·exact .inr (.inr q)
theorem OkL.gl{sc:Scope}{N:List Str}{X:Cx}(o:OkL G sc N X){x:Str}(h:jy sc x=true):Gl X x:=by
 unfold jy at h;rw[beq_iff_eq]at h;exact o.glo x h
theorem isi_ok{X:Cx}:eK X (.builtin "isinstance") (rBf X.K .isinstance):=mm.or kH
mutual
theorem dU:∀(c:CE)(e:Expr){E:XS}{sc:Scope}{N:List Str}{X:Cx},OkL G sc N X->gc c=true->aF sc N c e=true->PE X e (wpE G X.K E c)
 |.var i,e,E,sc,N,X,o,l,h=>by
  unfold aF at h;split at h
  ·obtain⟨h1,h2,h3⟩:=du h
   obtain⟨d1,d2⟩:=b7 h3;skip;exact u7 (by rw[o.names];exact beq_iff_eq.mp h1) (o.vis h2) d1 d2
  ·cases h
 |.con c,e,E,sc,N,X,o,l,h=>by
  unfold aF at h;split at h
  ·rw[ae,decide_eq_true_eq]at h
   obtain⟨h1,rfl⟩:=h;skip;cases c with
   |none=>exact zO
   |bool b=>exact pe_bl
   |int i=>exact zQ
   |str x=>exact nB
   |_=>exact absurd h1 (by simp[zX])
  ·cases h
 |.glo x,e,E,sc,N,X,o,l,h=>by
  unfold aF at h;split at h
  ·obtain⟨h1,h2,h3⟩:=du h
   rw[decide_eq_true_eq]at h1;subst h1;skip;intro pins s σ H Q I hw;obtain⟨v,hv,q⟩:=hw;obtain⟨u,hu,r⟩:=o.val _ _ hv;exact qV (o.gl h2) hu r (b7 h3).1 pins s σ H Q I q
  ·cases h
 |.ty t,e,E,sc,N,X,o,l,h=>by
  unfold aF at h;split at h
  ·rw[ae,decide_eq_true_eq]at h
   obtain⟨h1,h2⟩:=h;subst h1;skip;exact wm (o.gl h2) (o.blt _ t.mem) t.boot rfl t.plain.1 t.plain.2
  ·cases h
 |.lst es,e,E,sc,N,X,o,l,h=>by
  unfold aF at h;split at h
  ·skip
   exact qU (iX es _ o l h)
  ·cases h
 |.tup es,e,E,sc,N,X,o,l,h=>by
  unfold aF at h;split at h
  ·skip
   exact zL (iX es _ o l h)
  ·cases h
 |.bfn .isinstance es,e,E,sc,N,X,o,l,h=>by
  unfold aF at h;split at h
  ·rename_i f' np e1 es' pos
   obtain⟨h1,h2,h3⟩:=du h;rw[decide_eq_true_eq]at h1;subst h1;skip;have hL:=iX es _ (E:=E) o l h3;have hs:aB (e1::es') X.env=(false,eval e1 X.env)::aB es' X.env/\(backTo pos (aB es' X.env)).any (·.1)=false:=by
    cases es with
    |nil=>exact absurd (cP h3) (by simp)
    |cons c r=>
     obtain⟨e1',r1,q,g1,g2⟩:=cn h3;cases q;exact⟨a9 g1 _ _,cq g2 _ _⟩
   exact dS isi_ok (o.gl h2) (o.blt _ (Bf.mem _)) (Bf.boot .isinstance) hL (Bf.plain _).1 (Bf.plain _).2 hs.1 hs.2
  ·cases h
 |.bfn .isx es,e,E,sc,N,X,o,l,h=>by
  unfold aF at h;split at h
  ·rename_i f' np e1 es' pos
   obtain⟨h1,h2,h3⟩:=du h;rw[decide_eq_true_eq]at h1;subst h1;skip;have hL:=iX es _ (E:=E) o l h3;have hs:aB (e1::es') X.env=(false,eval e1 X.env)::aB es' X.env/\(backTo pos (aB es' X.env)).any (·.1)=false:=by
    cases es with
    |nil=>exact absurd (cP h3) (by simp)
    |cons c r=>
     obtain⟨e1',r1,q,g1,g2⟩:=cn h3;cases q;exact⟨a9 g1 _ _,cq g2 _ _⟩
   exact dS kG (o.gl h2) (o.blt _ (Bf.mem _)) (Bf.boot .isx) hL (Bf.plain _).1 (Bf.plain _).2 hs.1 hs.2
  ·cases h
 |.fld a f,e,E,sc,N,X,o,l,h=>by
  unfold aF at h;split at h
  ·rw[ae,decide_eq_true_eq]at h
   obtain⟨h1,h2⟩:=h;subst h1;skip;exact wg (dU a _ o l h2)
  ·cases h
 |.bfn .len _,_,_,_,_,_,_,l,_=>nomatch l
 |.bfn .all _,_,_,_,_,_,_,l,_=>nomatch l
 |.bfn .list _,_,_,_,_,_,_,l,_=>nomatch l
 |.bfn .tuple _,_,_,_,_,_,_,l,_=>nomatch l
 |.bfn .set _,_,_,_,_,_,_,l,_=>nomatch l
 |.bfn .int _,_,_,_,_,_,_,l,_=>nomatch l
 |.meth0 _ _,_,_,_,_,_,_,l,_=>nomatch l
 |.meth1 m a b,e,E,sc,N,X,o,l,h=>by
  have l':(gc a&&gc b)=true:=l;rw[ae]at l';unfold aF at h;split at h
  ·rename_i o' nm ap a' cp
   simp only[ae,decide_eq_true_eq]at h;obtain⟨⟨⟨⟨h1,h2⟩,h3⟩,h4⟩,h5⟩:=h;subst h1;skip;exact wk ie m.slot m.ty (u0 m) (dU a _ o l'.1 h4) (eD (dU b _ o l'.2 h5) hO (a9 h5 _ _)) (hZ h3 _ _ _) (by rw[a9 h5];rfl) h2 (a9 h5 _ _) rfl
  ·cases h
 |.join _ _,_,_,_,_,_,_,l,_=>nomatch l
 |.split _ _,_,_,_,_,_,_,l,_=>nomatch l
 |.base _ _,_,_,_,_,_,_,l,_=>nomatch l
 |.upper _,_,_,_,_,_,_,l,_=>nomatch l
 |.inG _ _,_,_,_,_,_,_,l,_=>nomatch l
 |.idxG _ _,_,_,_,_,_,_,l,_=>nomatch l
 |.fstr _ _ _,_,_,_,_,_,_,l,_=>nomatch l
 |.lstR _ _ _ _ _ _,_,_,_,_,_,_,l,_=>nomatch l
 |.lstR1 _ _ _ _ _ _ _,_,_,_,_,_,_,l,_=>nomatch l
 |.mkf _ _ _,_,_,_,_,_,_,l,_=>nomatch l
 |.bin op a b,e,E,sc,N,X,o,l,h=>by
  have l':(gc a&&gc b)=true:=l;rw[ae]at l';unfold aF at h;split at h
  ·obtain⟨h1,h2,h3⟩:=du h
   rw[decide_eq_true_eq]at h1;subst h1;skip;exact pe_op (vY op) (dU a _ o l'.1 h2) (dU b _ o l'.2 h3)
  ·cases h
 |.un _ _,_,_,_,_,_,_,l,_=>nomatch l
 |.cmp _ _ _,_,_,_,_,_,_,l,_=>nomatch l
 |.chain _ _ _ _ _,_,_,_,_,_,_,l,_=>nomatch l
 |.not _,_,_,_,_,_,_,l,_=>nomatch l
 |.and _ _,_,_,_,_,_,_,l,_=>nomatch l
 |.or _ _,_,_,_,_,_,_,l,_=>nomatch l
 |.ite _ _ _,_,_,_,_,_,_,l,_=>nomatch l
 |.idx _ _,_,_,_,_,_,_,l,_=>nomatch l
 |.cut _ _ _,_,_,_,_,_,_,l,_=>nomatch l
 |.call _ _,_,_,_,_,_,_,l,_=>nomatch l
 |.comp _ _ _ _ _ _,_,_,_,_,_,_,l,_=>nomatch l
theorem iX:∀(c:CL)(es:List Expr){E:XS}{sc:Scope}{N:List Str}{X:Cx},OkL G sc N X->l9 c=true->gw sc N c es=true->PA X es (wpL G X.K E c)
 |.nil,es,E,sc,N,X,o,l,h=>by
  rw[cP h];skip;exact hO
 |.cons c r,es,E,sc,N,X,o,l,h=>by
  obtain⟨e',r',rfl,h1,h2⟩:=cn h;have l':(gc c&&l9 r)=true:=l;rw[ae]at l';skip;exact eD (dU c _ o l'.1 h1) (iX r _ o l'.2 h2) (a9 h1 _ _)
end
theorem Af(c:CE)(e:Expr){E:XS}{sc:Scope}{N:List Str}{X:Cx}(o:OkL G sc N X)(l:Ag c=true)(h:aF sc N c e=true):PT X e (wpT G X.K E c):=by
 cases c with
 |bfn b es=>
  cases b with
  |isx=>
   have hE:=dU (E:=E) (.bfn .isx es) e o l h;unfold aF at h;split at h
   ·exact qQ hE (fun _=>rfl)
   ·cases h
  |_=>exact nomatch l
 |_=>exact nomatch l
mutual
theorem Ah:∀(c:CS)(st:Stmt){E:XS}{sc:Scope}{N:List Str}{X:Cx},OkL G sc N X->Ai c=true->gv sc N c st=true->PS X st (wpS G X.K E c)
 |.asg (.name i) e,st,E,sc,N,X,o,l1,h1=>by
  unfold gv at h1;split at h1
  ·rw[ae]at h1
   obtain⟨g1,g2,g3⟩:=du h1.1;skip;unfold j6 at g1;split at g1
   ·rename_i x p
    simp only[ae,bK,beq_iff_eq,cG]at g1;refine zH (dU e _ o l1 g2) ?_ (z3 (iH g3) _ _ _) rfl rfl;refine qT (by rw[o.names];exact o.nd) (by rw[o.names];exact g1.1) ?_ (.inl (o.all x));rcases g1.2 with q|q
    ·exact .inl (o.loc x q)
    ·exact .inr (o.cel x q)
   ·cases g1
  ·cases h1
 |.asg (.tup _) _,_,_,_,_,_,_,l,_=>nomatch l
 |.asg (.sub _ _) _,_,_,_,_,_,_,l,_=>nomatch l
 |.ret e,st,E,sc,N,X,o,l1,h1=>by
  unfold gv at h1;split at h1
  ·skip
   exact zE (dU e _ o l1 h1)
  ·cases h1
 |.pass,st,E,sc,N,X,o,l1,h1=>by
  unfold gv at h1;split at h1
  ·skip
   exact wc
  ·cases h1
 |.expr e,st,E,sc,N,X,o,l1,h1=>by
  unfold gv at h1;split at h1
  ·rw[ae]at h1
   skip
   exact we (dU e _ o l1 h1.1) (ku (iH h1.2) _ _ _)
  ·cases h1
 |.iff c a b,st,E,sc,N,X,o,l1,h1=>by
  have l':(Ag c&&(ma a&&ma b))=true:=l1;rw[ae,ae]at l';unfold gv at h1;split at h1
  ·obtain⟨g1,g2,g3⟩:=du h1
   skip
   exact ps_if (Af c _ o l'.1 g1) (kC a _ o l'.2.1 g2) (kC b _ o l'.2.2 g3)
  ·cases h1
 |.asgc _ _,_,_,_,_,_,_,l,_=>nomatch l
 |.forr _ _ _,_,_,_,_,_,_,l,_=>nomatch l
 |.retN,_,_,_,_,_,_,l,_=>nomatch l
 |.brk,_,_,_,_,_,_,l,_=>nomatch l
 |.cont,_,_,_,_,_,_,l,_=>nomatch l
 |.rais _ _,_,_,_,_,_,_,l,_=>nomatch l
 |.raisX _ _,_,_,_,_,_,_,l,_=>nomatch l
 |.fldX _ _ _,_,_,_,_,_,_,l,_=>nomatch l
 |.tryc _ _ _ _,_,_,_,_,_,_,l,_=>nomatch l
theorem kC:∀(c:CB)(st:List Stmt){E:XS}{sc:Scope}{N:List Str}{X:Cx},OkL G sc N X->ma c=true->i3 sc N c st=true->PSs X st (wpB G X.K E c)
 |.hole,_,_,_,_,_,_,l,_=>nomatch l
 |.nil,st,E,sc,N,X,o,l,h=>by
  unfold i3 at h;split at h
  ·skip
   exact qR
  ·cases h
 |.cons s r,st,E,sc,N,X,o,l,h=>by
  have l':(Ai s&&ma r)=true:=l;rw[ae]at l';unfold i3 at h;split at h
  case h_2=>cases h
  rw[ae]at h;skip;exact sR (Ah s _ o l'.1 h.1) (kC r _ o l'.2 h.2)
end
mutual
theorem soundS(hCX:HX CX):∀(c:CS)(st:Stmt){E:XS}{sc:Scope}{N:List Str}{X:Cx},Ok CX G E sc N true X->(∀pins σ H s,Inv X pins σ H s->X.env.scope.kind=.function)->gv sc N c st=true->PS X st (wpS G X.K E c)
 |.asg g e,st,E,sc,N,X,o,hk,h=>by
  unfold gv at h;split at h
  ·rw[ae]at h
   obtain⟨h,h4⟩:=h;obtain⟨h1,h2,h3⟩:=du h;skip;exact zH (aR hCX e _ o h2) (ni hCX g _ o h1) (ku (iH h3) _ _ _) (vg h1 (iH h4) _) (by rw[nK h1];rfl)
  ·cases h
 |.asgc i e,st,E,sc,N,X,o,hk,h=>by
  unfold gv at h;split at h
  ·rename_i x p a b c d sp
   simp only[ae,bK,beq_iff_eq,decide_eq_true_eq]at h;obtain⟨⟨⟨h1,h2⟩,h3⟩,h4⟩:=h;skip;obtain⟨own,fr,tg,it,cond,elt,rfl⟩:=vz h3;by_cases hl:X.env.scope.names.lookup x=some .local
   ·have h4':p.line=d.line/\(!(c.names.any fun y=>decide (y.1=x)&&(decide (y.2=.local)||decide (y.2=.cell))))=true:=by
     rcases h4 with q|q
     ·rw[o.cel x q]at hl;cases hl
     ·exact q
    unfold aF at h3;split at h3
    ·rename_i elt' tg' it' ifs' sc' pos heq
     cases heq;simp only[ae]at h3;obtain⟨⟨⟨⟨⟨g1,g2⟩,g3⟩,g4⟩,g5⟩,g6⟩:=h3;have S:=nr g1;skip;intro pins s σ H D I hw;exact u4 (S.comp o) (S.mkOk o) o.calm (uT hCX it _ _ o g3)
      (fun C s₀ H₀ fp _=>⟨ni hCX tg _ (o.comp hCX S C s₀ H₀ fp) g4,yZ hCX cond _ (o.comp hCX S C s₀ H₀ fp) g5,aR hCX elt _ (o.comp hCX S C s₀ H₀ fp) g6⟩)
      (by rw[o.names];exact o.nd) (by rw[o.names];exact h1) hl (uO (hk pins σ H s I) hl h4'.1 (iH h4'.2)) (rb (iH g2) _) pins s σ H D I hw
    ·cases h3
   ·have hc:sc.names.lookup x=some .cell:=by
     rcases h2 with q|q
     ·exact absurd (o.loc x q) hl
     ·exact q
    exact ps_set (by rw[o.names];exact o.nd) (by rw[o.names];exact h1) (.inr (o.cel x hc)) (aR hCX _ _ o h3) (sH (by rw[show X.env.kindOf x=_ from o.cel x hc];decide)) (.inl (o.all rfl x))
  ·cases h
 |.expr e,st,E,sc,N,X,o,hk,h=>by
  unfold gv at h;split at h
  ·rw[ae]at h
   skip
   exact we (aR hCX e _ o h.1) (ku (iH h.2) _ _ _)
  ·cases h
 |.iff c a b,st,E,sc,N,X,o,hk,h=>by
  unfold gv at h;split at h
  ·obtain⟨h1,h2,h3⟩:=du h
   skip
   exact ps_if (fF hCX c _ o h1) (lp hCX a _ o hk h2) (lp hCX b _ o hk h3)
  ·cases h
 |.forr g it b,st,E,sc,N,X,o,hk,h=>by
  unfold gv at h;split at h
  ·rw[ae]at h
   obtain⟨h,h4⟩:=h;obtain⟨h1,h2,h3⟩:=du h;skip;exact ps_for o.px o.calm (uT hCX it _ _ o h2) (ni hCX g _ o h1) (lp hCX b _ o hk h4) (rb (iH h3) _)
  ·cases h
 |.ret e,st,E,sc,N,X,o,hk,h=>by
  unfold gv at h;split at h
  ·skip
   exact zE (aR hCX e _ o h)
  ·cases h
 |.retN,st,E,sc,N,X,o,hk,h=>by
  unfold gv at h;split at h
  ·skip
   exact ps_retN
  ·cases h
 |.rais x es,st,E,sc,N,X,o,hk,h=>by
  unfold gv at h;split at h
  ·rename_i x' np e' es' cp p
   rw[ae]at h;obtain⟨h,h4⟩:=h;obtain⟨h1,h2,h3⟩:=du h;rw[decide_eq_true_eq]at h1;subst h1;skip;intro pins s σ H D I hw;obtain⟨C,hv,hkp,hq,hw⟩:=hw;obtain⟨u,hu,ru⟩:=o.val _ _ hv;obtain rfl:u=bg C:=ru;have hL:=eU hCX es _ o h4;have hs:aB (e'::es') X.env=(false,eval e' X.env)::aB es' X.env/\(backTo cp (aB es' X.env)).any (·.1)=false:=by
    cases es with
    |nil=>exact absurd (cP h4) (by simp)
    |cons c r=>
     obtain⟨e1',r1,q,g1,g2⟩:=cn h4;cases q;exact⟨a9 g1 _ _,cq g2 _ _⟩
   exact zF (o.gl h2) hu hkp hq hL o.calm (b7 h3).1 hs.1 hs.2 o.made pins s σ H D I hw
  ·cases h
 |.raisX x es,st,E,sc,N,X,o,hk,h=>by
  unfold gv at h;split at h
  ·rename_i x' np e' es' cp p
   rw[ae]at h;obtain⟨h,h4⟩:=h;obtain⟨h1,h2,h3⟩:=du h;rw[decide_eq_true_eq]at h1;subst h1;skip;intro pins s σ H D I hw;obtain⟨C,sp,dvs,hv,hw⟩:=hw;obtain⟨f,fd,ps,ds,k,hM,F,hr,hu,hb,hd⟩:=o.ini _ _ _ _ _ hv;have hL:=eU hCX es _ o h4;have hs:aB (e'::es') X.env=(false,eval e' X.env)::aB es' X.env/\(backTo cp (aB es' X.env)).any (·.1)=false:=by
    cases es with
    |nil=>exact absurd (cP h4) (by simp)
    |cons c r=>
     obtain⟨e1',r1,q,g1,g2⟩:=cn h4;cases q;exact⟨a9 g1 _ _,cq g2 _ _⟩
   exact xA hM F hr hb hd o.pass (o.gl h2) hu hL o.calm (b7 h3).1 hs.1 hs.2 o.madeX pins s σ H D I hw
  ·cases h
 |.fldX a f e,st,E,sc,N,X,o,hk,h=>by
  unfold gv at h;split at h
  ·simp only[ae,decide_eq_true_eq]at h
   obtain⟨⟨⟨h1,h2⟩,h3⟩,h4⟩:=h;subst h1;skip;exact ps_fldX (aR hCX a _ o h2) (aR hCX e _ o h3) (ku (iH h4) _ _ _)
  ·cases h
 |.tryc x i b su,st,E,sc,N,X,o,hk,h=>by
  unfold gv at h;split at h
  ·rename_i b' x' np n s0 ss hp p
   simp only[ae,decide_eq_true_eq,beq_iff_eq]at h;obtain⟨⟨⟨⟨⟨⟨⟨h1,h2⟩,h3⟩,h4⟩,h5⟩,h6⟩,h7⟩,h8⟩:=h;subst h1;skip;obtain⟨t1,t2,t3⟩:=o.top rfl;intro pins s σ H D I hw;obtain⟨C,hv,hw⟩:=hw;obtain⟨u,hu,ru⟩:=o.val _ _ hv;obtain rfl:u=bg C:=ru;have O:uc X x n C i (s0::ss) (wpB G X.K N0 su):=
    {nd:=by rw[o.names];exact o.nd,at_:=by rw[o.names];exact h4,loc:=o.loc n h5,gl:=o.gl h2,mg:=hu,db:=(b7 h3).1,stk:=t1,fr:=t2,ex:=t3
     su:=fun pins a=>kC su _ (X:=X.re (X.A.mark (some (.ref a))) false (X.pn++pins) (fun _ _=>False)) ⟨o.names,o.nd,o.loc,o.cel,o.fre,o.glo,o.all rfl,o.val,o.blt⟩ h6 h7}
   exact ps_try (X:=X) (tb:=fun D=>wpB G X.K (lM X.K C i (wpB G X.K N0 su) D) b) (fun pins D ok=>lp hCX b _ (X:=X.re X.A X.calm (X.pn++pins) (f9 X pins D [.ExceptHandler (some (.Name x np)) (some n) (s0::ss) hp]))
    {names:=o.names,top:=fun _=>⟨t1,t2,t3⟩,nd:=o.nd,loc:=o.loc,cel:=o.cel,fre:=o.fre,glo:=o.glo,all:=o.all,own:=o.own,calm:=o.calm,hu:=o.hu,val:=o.val,fn:=o.fn,ini:=o.ini,dic:=o.dic,blt:=o.blt,px:=PassesOwn.looking
     pass:=fun pins' σ' H' s' e s'' J z=>yL O ok o.calm J (by rw[o.cx]at z;exact z)
     made:=fun pins' σ' H' s' a c args h' J hm z=>yM O ok J hm z
     madeX:=fun pins' σ' H' s' a C' d J m z=>xj O ok J m z
     cx:=o.cx} (fun _ _ _ _ J=>J.ok.kind) h8) pins s σ H D I hw
  ·cases h
 |.pass,st,E,sc,N,X,o,hk,h=>by
  unfold gv at h;split at h
  ·skip
   exact wc
  ·cases h
 |.brk,st,E,sc,N,X,o,hk,h=>by
  unfold gv at h;split at h
  ·skip
   exact zG
  ·cases h
 |.cont,st,E,sc,N,X,o,hk,h=>by
  unfold gv at h;split at h
  ·skip
   exact sS
  ·cases h
theorem lp(hCX:HX CX):∀(c:CB)(st:List Stmt){E:XS}{sc:Scope}{N:List Str}{X:Cx},Ok CX G E sc N true X->(∀pins σ H s,Inv X pins σ H s->X.env.scope.kind=.function)->i3 sc N c st=true->PSs X st (wpB G X.K E c)
 |.hole,_,_,_,_,_,_,_,_=>fun _ _ _ _ _ _ z=>z.elim
 |.nil,st,E,sc,N,X,o,hk,h=>by
  unfold i3 at h;split at h
  ·skip
   exact qR
  ·cases h
 |.cons s r,st,E,sc,N,X,o,hk,h=>by
  unfold i3 at h;split at h
  ·rw[ae]at h
   skip
   exact sR (soundS hCX s _ o hk h.1) (lp hCX r _ o hk h.2)
  ·cases h
end
end
structure GOk(P:Program)(w:World)(K:aa)(mg:Str->Option Value)(base:Heap)(CX:CXT)(k:Nat)(G:Gam):Prop where
 val:∀x v,G.val x=some v->∃u,mg x=some u/\RelV v u
 fn:∀x n sp dvs,G.fn x n=some (sp,dvs)->∃f fd ps ds j,j<=k/\gy P w K mg base CX j f fd ps sp/\mg x=some (.ref f)/\b9 K (.ref f)=true/\Binds K fd ps ds/\bp dvs ds
 ini:∀x n C sp dvs,G.ini x n=some (C,sp,dvs)->∃f fd ps ds j,j+1<=k/\MkX K C f/\gy P w K mg base CX j f fd ps sp/\mg x=some (.ref C)/\Binds K fd ps ds/\bp dvs ds
 dic:∀a kvs,G.dic a=some kvs->yk P w K a kvs
 blt:∀x∈fq,mg x=none
noncomputable def nJ(N ps:List Str)(sc:Scope):Bool:=
 decide (sc.kind=.function)&&decide (sc.isCoroutine=false)&&decide (sc.isGenerator=false)&&decide N.Nodup&&decide (N.take ps.length=ps)&&
 ps.all (fun x=>sc.names.lookup x==some .local||sc.names.lookup x==some .cell)&&sc.names.all (fun y=>decide (y.2≠.free))
theorem zW{N ps:List Str}{sc:Scope}(h:nJ N ps sc=true):rR N ps sc:=by
 unfold nJ at h;simp only[ae,aM,decide_eq_true_eq,beq_iff_eq,bK]at h;obtain⟨⟨⟨⟨⟨⟨h1,h2⟩,h3⟩,h4⟩,h5⟩,h6⟩,h7⟩:=h;exact⟨h1,h2,h3,h4,h5,h6,h7⟩
section
variable {P:Program}{w:World}{K:aa}{mg:Str->Option Value}{base:Heap}
theorem ow{x qual:Str}{st:Stmt}{f:Addr}{oc dV kV doc pm cdv ct:Value}{od an:Option Addr}{osl:Array (Option Value)}{N ps:List Str}{k:Nat}{G:Gam}{sp:Sp}{code:CB}(lk:K.lookup f=some ⟨oc,od,.func (aC x qual (bb st) (aZ st) (aJ st) dV kV doc pm an cdv ct),osl⟩)(hcd:dH K cdv qual=true)(hd:nJ N ps (aJ st)=true)(hc:i3 (aJ st) N code (aZ st)=true)
  (g:GOk P w K mg base (CXx P w) k G)(len:∀vs H Q E,sp vs H Q E->vs.length=ps.length)
  (h:∀vs H Q E,sp vs H Q E->wpB G K (fun _=>E) code {nx:=fun _ H'=>Q .non H',rt:=Q} (start N vs) H):gy P w K mg base (CXx P w) (k+1) f (aC x qual (bb st) (aZ st) (aJ st) dV kV doc pm an cdv ct) ps sp:=by
 have S:=zW hd;refine fn_of lk hcd S len fun A outer s H vs Q E hr hsp=>?_;have o:Ok (CXx P w) G (fun _=>E) (aJ st) N true (rF (CXx P w) P w K mg base N qual (aJ st) f cdv A outer s H E):=
  {names:=rfl,top:=fun _=>⟨rfl,rfl,rfl⟩,nd:=S.nd,loc:=fun _ z=>z,cel:=fun _ z=>z,fre:=fun y z=>absurd rfl (S.nofree _ (aT z)),glo:=fun _ z=>z,all:=fun _ _=>rfl,own:=fun _ _=>rfl,calm:=rfl,
   hu:=by have :=hr.units;show _+50<cLine;exact gZ (Nat.add_le_add_left (by decide) _) this
   val:=g.val
   fn:=fun y n sp' dvs e=>by
    obtain⟨f',fd',ps',ds',j,hj,F',hm,hk,hb,hv⟩:=g.fn y n sp' dvs e;exact⟨f',fd',ps',ds',j,F',hr.mono hj,hm,hk,hb,hv⟩
   ini:=fun y n C sp' dvs e=>by
    obtain⟨f',fd',ps',ds',j,hj,M,F',hm,hb,hv⟩:=g.ini y n C sp' dvs e;exact⟨f',fd',ps',ds',j,M,F',hr.mono hj,hm,hb,hv⟩
   dic:=g.dic
   blt:=g.blt,px:=PassesOwn.leaving,pass:=ye,made:=yf,madeX:=vC,cx:=rfl}
 exact⟨_,lp (fun _ _ _ _ _ z=>cxx0 z) code _ o (fun _ _ _ _ _=>S.kind) hc,h vs H Q E hsp⟩
theorem wG{x qual:Str}{st:Stmt}{f:Addr}{fd:dh}{N ps:List Str}{k:Nat}{G:Gam}{sp:Sp}{code:CB}(F:Fun K x qual st f fd)(hd:nJ N ps (aJ st)=true)(hc:i3 (aJ st) N code (aZ st)=true)
  (g:GOk P w K mg base (CXx P w) k G)(len:∀vs H Q E,sp vs H Q E->vs.length=ps.length)
  (h:∀vs H Q E,sp vs H Q E->wpB G K (fun _=>E) code {nx:=fun _ H'=>Q .non H',rt:=Q} (start N vs) H):gy P w K mg base (CXx P w) (k+1) f fd ps sp:=by
 obtain⟨oc,od,kV,doc,pm,an,cdv,ct,osl,rfl,lk,hcd⟩:=F.ex;exact ow lk hcd hd hc g len h
end
noncomputable def gam(vals:List (Str×V))(fns:List ((Str×Nat)×(Sp×List V)))(inis:List ((Str×Nat)×(Addr×Sp×List V)):=[]) (dics:List (Addr×List (Key×V)):=[]):Gam:=⟨fun x=>vals.lookup x,fun x n=>fns.lookup (x,n),fun x n=>inis.lookup (x,n),fun a=>dics.lookup a⟩
theorem tE{β:Type}{a:Addr}{b:β}:∀{l:List (Addr×β)},l.lookup a=some b->(a,b)∈l
 | [],h=>nomatch h
 | (k,v)::l,h=>by
  rw[aH]at h;cases q:(a==k)with
  |true=>
   rw[q]at h;cases h;rw[beq_iff_eq.mp q];exact aq
  |false=>
   rw[q]at h;exact aw _ (tE h)
section
variable {P:Program}{w:World}{K:aa}{mg:Str->Option Value}{base:Heap}{CX:CXT}
theorem GOk.start{vals:List (Str×V)}(hv:∀x v,(x,v)∈vals->∃u,mg x=some u/\RelV v u)(hb:∀x∈fq,mg x=none){dics:List (Addr×List (Key×V))}(hd:∀a kvs,(a,kvs)∈dics->yk P w K a kvs:=by intro a kvs h;exact nomatch h):GOk P w K mg base CX 0 (gam vals [] [] dics):=
 ⟨fun x v e=>hv x v (aT e),fun x n sp dvs e=>(nomatch e),fun x n C sp dvs e=>(nomatch e),fun a kvs e=>hd a kvs (tE (show bD a dics=some kvs from e)),hb⟩
theorem GOk.add{k n:Nat}{vals:List (Str×V)}{fns:List ((Str×Nat)×(Sp×List V))}{x:Str}{f:Addr}{fd:dh}{ps:List Str}{sp:Sp}{ds:List Value}{dvs:List V}{inis:List ((Str×Nat)×(Addr×Sp×List V))}{dics:List (Addr×List (Key×V))}(g:GOk P w K mg base CX k (gam vals fns inis dics))
  (F:gy P w K mg base CX (k+1) f fd ps sp)(hm:mg x=some (.ref f))(hk:b9 K (.ref f)=true)(hb:Binds K fd ps ds)(hd:bp dvs ds):GOk P w K mg base CX (k+1) (gam vals (((x,n),(sp,dvs))::fns) inis dics):=by
 refine⟨g.val,fun y m sp' dvs' e=>?_,fun y m C sp' dvs' e=>?_,g.dic,g.blt⟩
 rotate_left
 ·obtain⟨f',fd',ps',ds',j,hj,r⟩:=g.ini y m C sp' dvs' e
  exact⟨f',fd',ps',ds',j,fz hj,r⟩
 have e':bD (y,m) (((x,n),(sp,dvs))::fns)=some (sp',dvs'):=e;rw[aH]at e';cases q:((y,m)==(x,n))with
 |true=>
  rw[q]at e';have e2:(y,m)=(x,n):=eq_of_beq q;cases e2;cases e';exact⟨f,fd,ps,ds,k+1,ao _,F,hm,hk,hb,hd⟩
 |false=>
  rw[q]at e';obtain⟨f',fd',ps',ds',j,hj,r⟩:=g.fn y m sp' dvs' e';exact⟨f',fd',ps',ds',j,fz hj,r⟩
theorem GOk.addI{k n:Nat}{vals:List (Str×V)}{fns:List ((Str×Nat)×(Sp×List V))}{x:Str}{C f:Addr}{fd:dh}{ps:List Str}{sp:Sp}{ds:List Value}{dvs:List V}{inis:List ((Str×Nat)×(Addr×Sp×List V))}{dics:List (Addr×List (Key×V))}(g:GOk P w K mg base CX k (gam vals fns inis dics))
  (M:MkX K C f)(F:gy P w K mg base CX (k+1) f fd ps sp)(hm:mg x=some (.ref C))(hb:Binds K fd ps ds)(hd:bp dvs ds):GOk P w K mg base CX (k+2) (gam vals fns (((x,n),(C,sp,dvs))::inis) dics):=by
 refine⟨g.val,fun y m sp' dvs' e=>?_,fun y m C' sp' dvs' e=>?_,g.dic,g.blt⟩
 ·obtain⟨f',fd',ps',ds',j,hj,r⟩:=g.fn y m sp' dvs' e
  exact⟨f',fd',ps',ds',j,au hj (by omega),r⟩
 have e':bD (y,m) (((x,n),(C,sp,dvs))::inis)=some (C',sp',dvs'):=e;rw[aH]at e';cases q:((y,m)==(x,n))with
 |true=>
  rw[q]at e';have e2:(y,m)=(x,n):=eq_of_beq q;cases e2;cases e';exact⟨f,fd,ps,ds,k+1,ao _,M,F,hm,hb,hd⟩
 |false=>
  rw[q]at e';obtain⟨f',fd',ps',ds',j,hj,r⟩:=g.ini y m C' sp' dvs' e';exact⟨f',fd',ps',ds',j,au hj (by omega),r⟩
end
section
variable {K:aa}{H:Hp}{Q:VK}{i j:Int}
theorem add_ii:gT K .Add (.int i) (.int j) H Q↔Q (.int (i+j)) H:=by
 simp[gT,rI0,rCat,vW,vX]
theorem mul_ii:gT K .Mult (.int i) (.int j) H Q↔pH i j/\Q (.int (i*j)) H:=by simp[gT,rI,rRep,zz]
theorem nU:gT K .Mod (.int i) (.int j) H Q↔0<j/\Q (.int (i%j)) H:=by simp[gT,rI]
theorem div_ii:gT K .FloorDiv (.int i) (.int j) H Q↔CDiv i j/\Q (.int (i/j)) H:=by simp[gT,rI]
theorem pow_ii:gT K .Pow (.int i) (.int j) H Q↔yl i j/\Q (.int (i^j.toNat)) H:=by simp[gT,rI]
theorem shr_ii:gT K .RShift (.int i) (.int j) H Q↔0<=j/\Q (.int (i/2^j.toNat)) H:=by simp[gT,rI]
theorem j9{x y:Str}:gT K .Add (.str x) (.str y) H Q↔x.length+y.length<=sizeLine/\Q (.str (x++y)) H:=by simp[gT,rI0,rCat,vW,vX]
theorem neg_i:rUn K .USub (.int i) H Q↔Q (.int (-i)) H:=by simp[rUn,rU]
theorem Ae:dR K .Lt (.int i) (.int j) H Q↔Q (.bl (decide (i<j))) H:=by simp[dR,rI0]
theorem Aj:dR K .LtE (.int i) (.int j) H Q↔Q (.bl (decide (i<=j))) H:=by simp[dR,rI0]
theorem As:dR K .Gt (.int i) (.int j) H Q↔Q (.bl (decide (j<i))) H:=by simp[dR,rI0]
theorem ge_ii:dR K .GtE (.int i) (.int j) H Q↔Q (.bl (decide (j<=i))) H:=by simp[dR,rI0]
theorem vT{d:D}:Rep K H d (.int i)↔d=.int i:=by
 cases d<;>simp[Rep,eq_comm]
theorem rep_str{d:D}{x:Str}:Rep K H d (.str x)↔d=.str x:=by
 cases d<;>simp[Rep,eq_comm]
theorem wJ:dR K .Eq (.int i) (.int j) H Q↔Q (.bl (decide (i=j))) H:=by
 simp only[dR,rEqD,vT];constructor
 ·rintro⟨_,_,rfl,rfl,_,q⟩;exact q
 ·intro q;exact⟨_,_,rfl,rfl,bf _,q⟩
theorem tu:dR K .NotEq (.int i) (.int j) H Q↔Q (.bl (!decide (i=j))) H:=by
 simp only[dR,rNeD,vT];constructor
 ·rintro⟨_,_,rfl,rfl,_,q⟩;exact q
 ·intro q;exact⟨_,_,rfl,rfl,bf _,q⟩
theorem eq_ss{x y:Str}:dR K .Eq (.str x) (.str y) H Q↔Q (.bl (decide (x=y))) H:=by
 simp only[dR,rEqD,rep_str];constructor
 ·rintro⟨_,_,rfl,rfl,_,q⟩
  simpa[eqD,yu]using q
 ·intro q
  exact⟨_,_,rfl,rfl,bf _,by simpa[eqD,yu]using q⟩
theorem is_n{x:V}:dR K .Is x .non H Q↔Q (.bl (decide (x=.non))) H:=by simp[dR]
theorem isnot_n{x:V}:dR K .IsNot x .non H Q↔Q (.bl (!decide (x=.non))) H:=by simp[dR]
theorem len_s{z:Str}:rBf K .len [.str z] H Q↔z.length<=sizeLine/\Q (.int z.length) H:=by simp[rBf]
theorem idx_s{z:Str}:rIx K (.str z) (.int i) H Q↔∃c,z.length<=sizeLine/\atI z.cps.toList i=some c/\Q (.str ⟨#[c]⟩) H:=by
 simp[rIx,rIxL,rIxT,rIxS]
theorem cut_s{z:Str}{lo hi:Option Int}:rSlc K (.str z) lo hi H Q↔z.length<=sizeLine/\Q (.str (fH z lo hi)) H:=by
 simp[rSlc,rSlL,rSlT,rSlS,rSlW]
end
structure ud(J:It)(n:Nat)(it:Nat->V->Hp->Prop)(Hc:Hp->Prop):Prop where
 go:∀i H,Hc H->i<n->J.go i H
 stop:∀i H,Hc H->n<=i->J.stop i H
 yld:∀i H x H',Hc H->i<n->J.yld i H x H'->it i x H'/\aN H H'
section
variable {K:aa}
theorem gR{a:Addr}{xs:List V}:ud (Itl K a) xs.length (fun i x _=>xs[i]? =some x) (fun H=>SqL K H a xs) where
 go:=fun i H h hi=>⟨xs,xs[i],h,by simp[hi]⟩
 stop:=fun i H h hi=>⟨xs,h,hi⟩
 yld:=fun i H x H' h hi y=>by
  obtain⟨e,y⟩:=y;subst e;exact⟨y xs h,aN.refl _⟩
theorem vP{a:Addr}{xs:List V}:ud (Itt K a) xs.length (fun i x _=>xs[i]? =some x) (fun H=>SqT K H a xs) where
 go:=fun i H h hi=>⟨xs,xs[i],h,by simp[hi]⟩
 stop:=fun i H h hi=>⟨xs,h,hi⟩
 yld:=fun i H x H' h hi y=>by
  obtain⟨e,y⟩:=y;subst e;exact⟨y xs h,aN.refl _⟩
theorem ji{lo:Int}{n:Nat}:ud (Itr lo n) n (fun i x _=>x=.int (lo+i)) (fun _=>True) where
 go:=fun i H _ hi=>hi
 stop:=fun i H _ hi=>hi
 yld:=fun i H x H' _ hi y=>by
  obtain⟨e,y⟩:=y;subst e;exact⟨y,aN.refl _⟩
theorem qJ{z:Str}:ud (Its z) z.length (fun i x _=>∃c,z.cps[i]? =some c/\x=.str ⟨#[c]⟩) (fun _=>True) where
 go:=fun i H _ hi=>hi
 stop:=fun i H _ hi=>hi
 yld:=fun i H x H' _ hi y=>by
  obtain⟨e,y⟩:=y;subst e;exact⟨y,aN.refl _⟩
theorem az{H:Hp}{p:Addr}{o:HO}(h:H p=none):aN H (upd H p o):=fun b u e=>by rw[aL (ba e h)];exact e
theorem sJ{a:Addr}{xs:List V}:ud (Ite K a) xs.length (fun i x H=>∃p v,x=.ref p/\H p=some (.tup [.int i,v])/\xs[i]? =some v) (fun H=>SqL K H a xs) where
 go:=fun i H h hi=>⟨xs,xs[i],h,by simp[hi]⟩
 stop:=fun i H h hi=>⟨xs,h,hi⟩
 yld:=fun i H x H' h hi y=>by
  obtain⟨p,v,hp,e,ex,y⟩:=y;subst e ex;exact⟨⟨p,v,rfl,ak,y xs h⟩,az hp⟩
noncomputable def ForB(J:It)(g:TG)(tb:TS)(D:Ends)(σ:L2.St)(H:Hp):Prop:=∃W:Nat->Nat->L2.St->Hp->Prop,(∃m,W 0 m σ H)/\∀i m σ H,W i m σ H->
 (J.stop i H/\D.nx σ H)\/(J.go i H/\∃N:L2.St->Hp->Prop,(∀σ' H',N σ' H'->∃m',m'<m/\W (i+1) m' σ' H')/\∀x H',J.yld i H x H'->g x σ H' fun σ2 H2=>tb {D with nx:=N,ct:=N,bk:=D.nx} σ2 H2)
noncomputable def CompB(J:It)(g:TG)(tc:TT)(te:TE)(τ0:L2.St)(H1:Hp)(Q:VK):Prop:=∃W:Nat->Nat->L2.St->List V->Hp->Prop,(∃m,W 0 m τ0 [] H1)/\
 ∀i m τ acc H2,W i m τ acc H2->(J.stop i H2/\∀l,H2 l=none->Q (.ref l) (upd H2 l (.lst acc)))\/(J.go i H2/\∃N:L2.St->List V->Hp->Prop,(∀τ' acc' H',N τ' acc' H'->∃m',m'<m/\W (i+1) m' τ' acc' H')/\
  ∀x H3,J.yld i H2 x H3->g x τ H3 fun τ4 H4=>tc τ4 H4 fun b H5=>if b=true then te τ4 H5 fun v H6=>acc.length<sizeLine/\N τ4 (acc++[v]) H6 else N τ4 acc H5)
theorem rC{J:It}{n:Nat}{it:Nat->V->Hp->Prop}{Hc:Hp->Prop}{g:TG}{tb:TS}{D:Ends}{σ:L2.St}{H:Hp}(S:ud J n it Hc)(Pv:Nat->L2.St->Hp->Prop)(h0:Pv 0 σ H)(hl:∀i σ H,i<=n->Pv i σ H->Hc H)
  (hs:∀i x σ H H',i<n->Pv i σ H->it i x H'->aN H H'->g x σ H' fun σ2 H2=>tb {D with nx:=Pv (i+1),ct:=Pv (i+1),bk:=D.nx} σ2 H2) (hd:∀σ H,Pv n σ H->D.nx σ H):
  ForB J g tb D σ H:=by
 refine⟨fun i m σ H=>m=n-i/\i<=n/\Pv i σ H,⟨n,by simp,bf _,h0⟩,?_⟩;rintro i m σ H ⟨rfl,hi,p⟩;have q:=hl i σ H hi p;by_cases hlt:i<n
 ·refine .inr ⟨S.go i H q hlt,Pv (i+1),fun σ' H' p'=>⟨n-(i+1),by omega,rfl,hlt,p'⟩,fun x H' y=>?_⟩
  obtain⟨y1,y2⟩:=S.yld i H x H' q hlt y;exact hs i x σ H H' hlt p y1 y2
 ·have e:i=n:=by omega
  subst e;exact .inl ⟨S.stop i H q (ao _),hd σ H p⟩
theorem cV{J:It}{n:Nat}{it:Nat->V->Hp->Prop}{Hc:Hp->Prop}{g:TG}{te:TE}{Q:VK}{τ0:L2.St}{H1:Hp}(S:ud J n it Hc)(hn:n<=sizeLine)(hc:∀H,aN H1 H->Hc H)
  (F:Nat->V->Hp->Prop)(Fm:∀i v H H',aN H H'->F i v H->F i v H')(T:L2.St->Prop)(hT:T τ0)
  (step:∀i x τ H3 (R:L2.St->V->Hp->Prop),i<n->T τ->aN H1 H3->it i x H3->(∀τ' v H6,T τ'->aN H3 H6->F i v H6->R τ' v H6)->g x τ H3 fun τ4 H4=>te τ4 H4 (R τ4))
  (fin:∀vs H2 l,vs.length=n->(∀(i:Nat) v,vs[i]? =some v->F i v H2)->aN H1 H2->H2 l=none->Q (.ref l) (upd H2 l (.lst vs))):
  CompB J g tYes te τ0 H1 Q:=by
 refine⟨fun i m τ acc H2=>m=n-i/\i<=n/\T τ/\acc.length=i/\aN H1 H2/\∀(k:Nat) v,acc[k]? =some v->F k v H2,⟨n,by simp,bf _,hT,rfl,aN.refl _,fun k v e=>by simp at e⟩,?_⟩;rintro i m τ acc H2 ⟨rfl,hi,ht,hl,sm,hF⟩;have q:=hc H2 sm;by_cases hlt:i<n
 ·refine .inr ⟨S.go i H2 q hlt,fun τ' acc' H'=>T τ'/\acc'.length=i+1/\aN H1 H'/\∀(k:Nat) v,acc'[k]? =some v->F k v H',fun τ' acc' H' ⟨a,b,c,d⟩=>⟨n-(i+1),by omega,rfl,hlt,a,b,c,d⟩,fun x H3 y=>?_⟩
  obtain⟨y1,y2⟩:=S.yld i H2 x H3 q hlt y;refine step i x τ H3 (fun τ' v H6=>acc.length<sizeLine/\T τ'/\(acc++[v]).length=i+1/\aN H1 H6/\∀(k:Nat) v',(acc++[v])[k]? =some v'->F k v' H6) hlt ht (sm.trans y2) y1 fun τ' v H6 ht' s6 f6=>⟨by omega,ht',by simp[hl],(sm.trans y2).trans s6,fun k v' e=>?_⟩;by_cases hk:k<acc.length
  ·rw[ck hk]at e
   exact Fm k v' H2 H6 (y2.trans s6) (hF k v' e)
  ·rw[cf (by omega)]at e
   have hk0:k-acc.length=0:=by
    have :=(aE.mp e).1
    simp at this;omega
   rw[hk0]at e;have hk':k=i:=by omega
   simp at e;subst e;rw[hk'];exact f6
 ·have e:i=n:=by omega
  subst e;exact .inl ⟨S.stop i H2 q (ao _),fun l hl'=>fin acc H2 l hl hF sm hl'⟩
theorem dD{wi:TI}{g:TG}{tc:TT}{te:TE}{mk:L2.St->L2.St}{σ:L2.St}{H:Hp}{Q:VK}(h:wi σ H fun J H1=>CompB J g tc te (mk σ) H1 Q):pQ wi g tc te mk σ H Q:=h
theorem rD{wi:TI}{g:TG}{tb:TS}{D:Ends}{σ:L2.St}{H:Hp}(h:wi σ H fun J H1=>ForB J g tb D σ H1):tFor wi g tb D σ H:=h
theorem ja{i:Nat}{z:Str}{σ:L2.St}{H:Hp}{R:It->Hp->Prop}(hv:σ[i]? =some (some (.str z)))(h:R (Its z) H):xW K (qC i) σ H R:=⟨_,hv,.inr (.inr ⟨z,rfl,h⟩)⟩
theorem eJ{i:Nat}{a:Addr}{xs:List V}{σ:L2.St}{H:Hp}{R:It->Hp->Prop}(hv:σ[i]? =some (some (.ref a)))(hq:SqL K H a xs)(h:R (Itl K a) H):xW K (qC i) σ H R:=⟨_,hv,.inl ⟨a,rfl,⟨xs,hq⟩,h⟩⟩
theorem ua{i:Nat}{a:Addr}{xs:List V}{σ:L2.St}{H:Hp}{R:It->Hp->Prop}(hv:σ[i]? =some (some (.ref a)))(hq:SqT K H a xs)(h:R (Itt K a) H):xW K (qC i) σ H R:=⟨_,hv,.inr (.inl ⟨a,rfl,⟨xs,hq⟩,h⟩)⟩
theorem bool_list{vs:List V}{n:Nat}{b:Nat->Bool}(hl:vs.length=n)(h:∀(i:Nat) v,vs[i]? =some v->v=.bl (b i)):vs=((aU n).map b).map V.bl:=by
 apply fN
 ·simp[hl]
 ·intro i h1 h2
  have :=h i vs[i] (by simp[h1])
  simp[this]
theorem kS{α:Type}(l:List α)(d:α)(f:α->Bool):((aU l.length).map fun i=>f (l.getD i d)).all id=l.all f:=by
 rw[m4,Bool.eq_iff_iff];simp only[aM,gO,Function.comp,id];constructor
 ·intro h c hc
  obtain⟨i,hi,rfl⟩:=yy.mp hc;have :=h i hi;rw[a8,ah hi]at this;exact this
 ·intro h i hi
  have :=h _ (dj hi)
  rw[a8,ah hi];exact this
theorem getD_some{α:Type}{l:List α}{i:Nat}{d x:α}(h:l[i]? =some x):l.getD i d=x:=by
 rw[a8,h];rfl
theorem str_len(z:Str):z.length=z.cps.toList.length:=by simp[bX]
theorem cg(x y:Str):(x++y).length=x.length+y.length:=by
 show(x.cps++y.cps).size=_;rw[mK];rfl
theorem x4(z:Str)(lo hi:Option Int):(fH z lo hi).cps.toList=(z.cps.toList.drop (HT.sIx z.length 0 lo)).take (HT.sIx z.length z.length hi-HT.sIx z.length 0 lo):=by simp[fH]
theorem AF(z:Str)(lo hi:Option Int):(fH z lo hi).length=HT.sIx z.length z.length hi-HT.sIx z.length 0 lo:=by
 have h1:HT.sIx z.length 0 lo<=z.length:=HT.lq _ _ (bf _) lo;have h2:HT.sIx z.length z.length hi<=z.length:=HT.lq _ _ (ao _) hi;rw[str_len,x4,bt,di,<-str_len];omega
theorem mi(z:Str)(lo hi:Option Int):(fH z lo hi).length<=z.length:=by
 have h2:HT.sIx z.length z.length hi<=z.length:=HT.lq _ _ (ao _) hi;rw[AF];omega
end
noncomputable def HasFn(K:aa)(x:Str)(st:Stmt):Prop:=∃(f:Addr)(oc:Value)(od an:Option Addr)(osl:Array (Option Value))(kV doc pm cdv ct:Value),bI K a0 x=some (some (.ref f))/\
 K.lookup f=some ⟨oc,od,.func (aC x x (bb st) (aZ st) (aJ st) .none kV doc pm an cdv ct),osl⟩/\dH K cdv x=true/\b9 K (.ref f)=true
theorem bH{K:aa}{x:Str}{st:Stmt}{f:Addr}{oc:Value}{od an:Option Addr}{osl:Array (Option Value)}{kV doc pm cdv ct:Value}(a:bI K a0 x=some (some (.ref f)))
  (l:K.lookup f=some ⟨oc,od,.func (aC x x (bb st) (aZ st) (aJ st) .none kV doc pm an cdv ct),osl⟩)(c:dH K cdv x=true)(k:b9 K (.ref f)=true):HasFn K x st:=
 ⟨f,oc,od,an,osl,kV,doc,pm,cdv,ct,a,l,c,k⟩
structure Def(K:aa)(mg:Str->Option Value)(x:Str)(st:Stmt):Prop where
 ex:∃f fd,Fun K x x st f fd/\mg x=some (.ref f)
theorem HasFn.def{K:aa}{h:Heap}{mg:Str->Option Value}{x:Str}{st:Stmt}(X:K.In h)(Gm:h.Ns a0 mg)(H:HasFn K x st):Def K mg x st:=by
 obtain⟨f,oc,od,an,osl,kV,doc,pm,cdv,ct,a,l,c,k⟩:=H;exact⟨f,_,Av l c k,br X Gm a⟩
section
variable {P:Program}{w:World}{K:aa}{mg:Str->Option Value}{base:Heap}
theorem cR{k:Nat}{vals:List (Str×V)}{fns:List ((Str×Nat)×(Sp×List V))}{x:Str}{st:Stmt}{N ps:List Str}{sp:Sp}{code:CB}{inis:List ((Str×Nat)×(Addr×Sp×List V))}{dics:List (Addr×List (Key×V))}(g:GOk P w K mg base (CXx P w) k (gam vals fns inis dics))(d:Def K mg x st)
  (hc:(nJ N ps (aJ st)&&i3 (aJ st) N code (aZ st))=true)
  (hb:∀(kV doc pm:Value)(an:Option Addr)(cdv ct:Value)(us:List Value),us.length=ps.length->bindArgs (aC x x (bb st) (aZ st) (aJ st) .none kV doc pm an cdv ct) ⟨us,[]⟩=pure (ps.zip us))
  (len:∀vs H Q E,sp vs H Q E->vs.length=ps.length)
  (h:∀vs H Q E,sp vs H Q E->wpB (gam vals fns inis dics) K (fun _=>E) code {nx:=fun _ H'=>Q .non H',rt:=Q} (L2.start N vs) H):GOk P w K mg base (CXx P w) (k+1) (gam vals (((x,ps.length),(sp,[]))::fns) inis dics):=by
 rw[ae]at hc;obtain⟨f,fd,F,hm⟩:=d.ex;exact g.add (n:=ps.length) (wG F hc.1 hc.2 g len h) hm F.kp (F.binds hb) .nil
end
end R
set_option hygiene false in
local macro_rules | `(tactic| walk_at "wp") => `(tactic| simp only [_root_.R.wpB, _root_.R.wpS, _root_.R.wpE, _root_.R.wpT, _root_.R.wpL, _root_.R.wpO, _root_.R.wpC, _root_.R.wpG, _root_.R.wpGs, _root_.R.wpI, _root_.L2.tSeq, _root_.L2.tRet, _root_.L2.yP, _root_.L2.sF, _root_.L2.xk, _root_.L2.yS, _root_.L2.tIfS, _root_.L2.yU, _root_.L2.tOrV, _root_.L2.yQ, _root_.L2.tNot, _root_.L2.tAnd, _root_.L2.tOr, _root_.L2.sD, _root_.R.sC, _root_.L2.tIf, _root_.L2.tCB, _root_.L2.iR, _root_.L2.pk, _root_.L2.qC, _root_.L2.tC, _root_.L2.tOp, _root_.L2.tUn, _root_.L2.m8, _root_.L2.tTup, _root_.L2.yR, _root_.L2.sG, _root_.L2.tBM, _root_.L2.tBM0, _root_.L2.tSl, _root_.L2.vM, _root_.L2.mM, _root_.R.cv, _root_.L2.ot, _root_.L2.gSub, _root_.L2.gTup, _root_.L2.Au, _root_.L2.gNil, _root_.R.CGs.len, _root_.L2.Ap, _root_.L2.Ao, _root_.L2.Aq, _root_.L2.iTup, _root_.L2.Ar, _root_.List.getElem?_cons_zero, _root_.List.getElem?_cons_succ, _root_.Option.some.injEq, _root_.exists_eq_left', _root_.exists_eq_left, _root_.L2.V.bl.injEq, _root_.L2.V.int.injEq, _root_.L2.V.str.injEq, _root_.List.set_cons_zero, _root_.List.set_cons_succ, _root_.R.CL.len, _root_.R.Ty.t, _root_.R.add_ii, _root_.R.mul_ii, _root_.R.nU, _root_.R.div_ii, _root_.R.pow_ii, _root_.R.shr_ii, _root_.R.j9, _root_.R.neg_i, _root_.R.Ae, _root_.R.Aj, _root_.R.As, _root_.R.ge_ii, _root_.R.wJ, _root_.R.tu, _root_.R.eq_ss, _root_.R.is_n, _root_.R.isnot_n, _root_.R.len_s, _root_.R.idx_s, _root_.R.cut_s, _root_.List.append_nil, _root_.R.jh, _root_.List.map_cons, _root_.List.map_nil, _root_.List.nil_append, _root_.List.cons_append])
namespace Lm
open PySem PySem.Spec PySem.W PyProof.Rows L2 Q
noncomputable def BM(mg:Str->Option Value)(h:Heap):Prop:=∃bm ob,mg "__builtins__"=some (.ref bm)/\bm≠iN/\bm≠a0/\h.get? bm=some ob/\ob.cls=.type "module"/\ob.dict=some iN/\ob.data=.plain
end Lm
namespace Lm
open PySem PySem.Spec PySem.W PyProof.Rows L2 Q R
noncomputable def gh(K:aa)(tabs:List Addr)(a:Addr)(vs:List Value)(ns:List Int):Hp:=fun b=>
 if b∈tabs then some (.tbl #[])else if b=a/\K.lookup a=none then some (.frz {cls:=.type "list",data:=.seq vs.toArray} (.lst (ns.map V.int)))else none
theorem xP{P:Program}{w:World}{K:aa}{mg mb:Str->Option Value}{CX:CXT}{k:Nat}{fa a:Addr}{fd:dh}{x:Str}{sp:Sp}{s₁:Shared}{vs:List Value}{ns:List Int}{tabs:List Addr}(KX:K.In s₁.heap)
  (hns:s₁.heap.Ns a0 mg)(hb:s₁.heap.Ns iN mb)(hbb:∀x:Str,x≠"__name__"->mb x=eL x)(hlim:s₁.heap.NoLimit)(hg:s₁.gens= #[])(ha:s₁.heap.get? a=some {cls:=.type "list",data:=.seq vs.toArray})
  (hi:IntsAre vs ns) (hl:ns.length<=sizeLine) (hr:fK k wU) (hT:∀p∈tabs,s₁.heap.get? p=some (tabObj #[])/\isCodeTable s₁.heap p/\K.lookup p=none)
  (F:∀base:Heap,K.In base->base.Ns a0 mg->(∀b o,s₁.heap.get? b=some o->o.cls≠.none->o.cls≠.type "list"->base.get? b=some o)->gy P w K mg base CX k fa fd [x] sp)
  (hbind:∀(s:Shared)(u:Value),BindsTo s fd ⟨[u],[]⟩ [(x,u)])
  (hsp:∀H:Hp,(∀p∈tabs,H p=some (.tbl #[]))->SqL K H a (ns.map V.int)->sp [.ref a] H (fun v _=>v=.bl true) fun _ _ _=>False) (hCX:∀H e s',CX [] H s₁ (fun _ _ _=>False) e s'->False):
  ic (model P w) wU (.call (.ref fa) ⟨[.ref a],[]⟩) (fun r s'=>r=.ok (.ret (.bool true))/\OldK s₁.heap s'.heap/\s'.os=s₁.os/\jw s'.gens) s₁:=by
 have rv:=pN hi;have lenV:=hi.length;have cases3:∀b,(b∈tabs/\gh K tabs a vs ns b=some (.tbl #[]))\/(b=a/\K.lookup a=none/\gh K tabs a vs ns b=some (.frz {cls:=.type "list",data:=.seq vs.toArray} (.lst (ns.map V.int))))\/gh K tabs a vs ns b=none:=fun b=>by
  unfold gh;by_cases h1:b∈tabs
  ·exact .inl ⟨h1,if_pos h1⟩
  ·rw[if_neg h1]
   by_cases h2:b=a/\K.lookup a=none
   ·exact .inr (.inl ⟨h2.1,h2.2,if_pos h2⟩)
   ·exact .inr (.inr (if_neg h2))
 have tabH:∀p∈tabs,gh K tabs a vs ns p=some (.tbl #[]):=fun p hp=>if_pos hp;have haT:a∉tabs:=fun z=>by
  have :=(hT a z).1
  rw[ha]at this;cases this
 --what is neither a table nor a list is not tracked
 have untr:∀{b:Addr}{o:Obj},s₁.heap.get? b=some o->o.cls≠.none\/(∃es ep,o.data=.dict es ep)->o.cls≠.type "list"\/(∃es ep,o.data=.dict es ep)->gh K tabs a vs ns b=none:=fun{b o} e h1 h2=>by
  rcases cases3 b with⟨q,_⟩ |⟨rfl,_⟩ |q
  ·have :=(hT b q).1
   rw[e]at this;cases this;rcases h1 with z|⟨_,_,z⟩
   ·exact absurd rfl z
   ·cases z
  ·rw[ha]at e;cases e
   rcases h2 with z|⟨_,_,z⟩
   ·exact absurd rfl z
   ·cases z
  ·exact q
 have nsK:∀{b:Addr}{m:Str->Option Value},s₁.heap.Ns b m->(tM s₁.heap (gh K tabs a vs ns)).Ns b m:=fun{b m} ⟨o,es,ep,e,d,r⟩=>⟨o,es,ep,oi e (untr e (.inr ⟨_,_,d⟩) (.inr ⟨_,_,d⟩)),d,r⟩;have hKb:K.In (tM s₁.heap (gh K tabs a vs ns)):=fun b o e=>oi (KX b o e) (by
  rcases cases3 b with⟨q,_⟩ |⟨rfl,z,_⟩ |q
  ·rw[(hT b q).2.2]at e;cases e
  ·rw[z]at e;cases e
  ·exact q)
 have hok:HOk P w (gh K tabs a vs ns) s₁.heap:=fun b o e=>by
  rcases cases3 b with⟨q,z⟩ |⟨rfl,_,z⟩ |z
  ·rw[z]at e;cases e
   exact(hT b q).1
  ·rw[z]at e;cases e
   exact⟨ha,by rw[av];exact hl,vs,_,rv,ha⟩
  ·rw[z]at e;cases e
 have hS:SqL K (gh K tabs a vs ns) a (ns.map V.int):=by
  cases hk:K.lookup a with
  |none=>
   refine .inl (.inr ⟨{cls:=.type "list",data:=.seq vs.toArray},?_⟩);unfold gh;rw[if_neg haT,if_pos ⟨rfl,hk⟩]
  |some o=>
   have e:=KX a o hk;rw[ha]at e;cases e;exact .inr ⟨_,vs.toArray,_,hk,rfl,rfl,rfl,by rw[ax,lenV];exact hl,by simpa using rv⟩
 have hM:Mod K mg (tM s₁.heap (gh K tabs a vs ns)):=⟨hKb,nsK hns,⟨mb,nsK hb,hbb⟩,let⟨mc,h1,h2⟩:=hlim;⟨mc,nsK h1,h2⟩⟩;have e0:vH P w K mg (tM s₁.heap (gh K tabs a vs ns)) wU [] s₁ (gh K tabs a vs ns):=⟨rfl,hM,fun b o e=>of_hidT e,yq (xX _ _),trivial,fun b hb=>absurd (show b∈([]:List Addr)from hb) (by simp),hok,.of_eq hg⟩;have f0:=F _ hKb (nsK hns) fun b o e h1 h2=>oi e (untr e (.inl h1) (.inl h2));refine fX (f0.run wU [] s₁ (gh K tabs a vs ns) ⟨[.ref a],[]⟩ [.ref a] [.ref a] _ _ hr e0 (hbind s₁ (.ref a)) (.cons rfl .nil) (hsp _ tabH hS)) fun r s' h=>?_;cases r with
 |error e=>exact(hCX _ e s' h).elim
 |ok fl=>
  cases fl with
  |next =>exact dM h
  |brk=>exact dM h
  |cont=>exact dM h
  |ret u=>
   obtain⟨v,H',os,bare,un,hok',r',q⟩:=h;have q':v=.bl true:=q;subst q';obtain rfl:u=rY true:=r';have kept:∀b o,s₁.heap.get? b=some o->b∉tabs->s'.heap.get? b=some o:=fun b o e nt=>by
    rcases cases3 b with⟨z,_⟩ |⟨rfl,_,z⟩ |z
    ·exact absurd z nt
    ·have z2:=un.frzs b _ _ z
     obtain⟨e2,_⟩:=hok' b _ z2;rw[ha]at e;cases e;exact e2
    ·exact un.keep b o e z (by intro z;exact absurd (show b∈([]:List Addr)from z) (by simp)) (by simp)
   have grown:∀b∈tabs,∃more,s'.heap.get? b=some (tabObj (#[]++more)):=fun b hb=>by
    obtain⟨more,z⟩:=un.tbls b _ (tabH b hb);exact⟨more,hok' b _ z⟩
   refine⟨rfl,⟨fun b o e=>?_,fun b o e=>?_⟩,os,bare⟩
   ·by_cases hb:b∈tabs
    ·obtain⟨e1,ct,_⟩:=hT b hb
     rw[e]at e1;cases e1;obtain⟨more,z⟩:=grown b hb;exact .inr (.inl ⟨ct,rfl,#[],more,rfl,z⟩)
    ·exact .inl (kept b o e hb)
   ·by_cases hb:b∈tabs
    ·obtain⟨more,z⟩:=grown b hb
     exact⟨_,z⟩
    ·exact⟨o,kept b o e hb⟩
theorem bm_of{mg:Str->Option Value}{h:Heap}(hg:h.Ns a0 mg)(hb:∃bm ob,mg "__builtins__"=some (.ref bm)/\bm≠iN/\h.get? bm=some ob/\ob.cls=.type "module"/\ob.dict=some iN/\ob.data=.plain):BM mg h:=by
 obtain⟨bm,ob,b1,b2,b3,b4,b5,b6⟩:=hb;refine⟨bm,ob,b1,b2,fun q=>?_,b3,b4,b5,b6⟩;obtain⟨o,es,ep,e,hd,_⟩:=hg;rw[q,e]at b3;cases b3;rw[hd]at b6;cases b6
theorem yF{l:PySem.W.OpenLaw}{n k:Nat}{q:Program}{loose:List Str}{XP:(Str->Option Value)->Heap->Prop}{YP:World->Heap->Prop}{d:DefRec}{K:Params->aa}{CX:CXT}{sp:aa->Sp}{x:Str}{tabs:List Addr}
  (hn:l.most=some n)(hn2:n<=sizeLine)(hdf:d.params.defaults=[])(hr:fK k wU)(hY:∀(w:World)(h:Heap),YP w h->(K w.params).In h)
  (hT:∀(w:World)(s₀:Shared)(mg mb:Str->Option Value)(h:Heap),Ground q loose [] XP w s₀ mg mb h->YP w h->∀p∈tabs,h.get? p=some (tabObj #[])/\isCodeTable h p/\(K w.params).lookup p=none)
  (F:∀(w:World)(mg:Str->Option Value)(fa:Addr)(h:Heap),(K w.params).In h->h.Ns a0 mg->mg d.name=some (.ref fa)->
   ∃fd:dh,(∀(s:Shared)(u:Value),BindsTo s fd ⟨[u],[]⟩ [(x,u)])/\
    ∀base:Heap,(K w.params).In base->base.Ns a0 mg->BM mg base->gy l.prog w (K w.params) mg base CX k fa fd [x] (sp (K w.params)))
  (hsp:∀(K:aa)(H:Hp)(a:Addr)(ns:List Int),ns.length<=n->(∀p∈tabs,H p=some (.tbl #[]))->SqL K H a (ns.map V.int)->sp K [.ref a] H (fun v _=>v=.bl true) fun _ _ _=>False)
  (hCX:∀(H:Hp)(s:Shared)(e:Value)(s':Shared),CX [] H s (fun _ _ _=>False) e s'->False):
  PySem.W.WalkO q loose XP YP l.row.toRowW d [] (fun f vs=>PySem.call f vs):=by
 refine Att.t9 hn hdf fun w s₀ s₁ mg mb fa o pm cd doc a vs ns G Y ho hd hcd hmg hobj hints hlen hg=>?_;have KX:=hY w _ Y;obtain⟨fd,hb,hF⟩:=F w mg fa _ KX G.T.g hmg;have hbm:=bm_of G.T.g G.T.bmain;refine xP KX G.T.g G.T.b G.T.builtins G.T.nolimit hg hobj hints (au hlen hn2) hr (hT w s₀ mg mb _ G Y) (fun base k1 k2 k3=>hF base k1 k2 ?_) hb (fun H t S=>hsp _ H a ns hlen t S) fun H e s'=>hCX H s₁ e s';obtain⟨bm,ob,b1,b2,b0,b3,b4,b5,b6⟩:=hbm;exact⟨bm,ob,b1,b2,b0,k3 bm ob b3 (by rw[b4];nofun) (by rw[b4];decide),b4,b5,b6⟩
end Lm
namespace Cp
open PySem R
noncomputable def vd:List Str:=["thing"]
noncomputable def nR:List Str:=["thing"]
noncomputable def oR:CB:=
  (.cons (.ret (.and (.bfn .isinstance (.cons (.var 0) (.cons (.ty .int) .nil))) (.not (.bfn .isinstance (.cons (.var 0) (.cons (.ty .bool) .nil))))))
  .nil)
noncomputable def xG:List Str:=["thing"]
noncomputable def qb:List Str:=["thing"]
noncomputable def qo:CB:=
  (.cons (.iff (.not (.bfn .isinstance (.cons (.var 0) (.cons (.ty .str) .nil))))
  (.cons (.ret (.con (.bool false)))
  .nil)
  .nil)
  (.cons (.iff (.not (.chain .LtE .LtE (.con (.int 1)) (.bfn .len (.cons (.var 0) .nil)) (.glo "LONGEST_NAME")))
  (.cons (.ret (.con (.bool false)))
  .nil)
  .nil)
  (.cons (.ret (.bfn .all (.cons (.comp ["sign"] [] (.name 0) (.seq (.var 0)) .no (.cmp .In (.var 0) (.glo "LETTERS"))) .nil)))
  .nil)))
noncomputable def qX:List Str:=["thing"]
noncomputable def kA:List Str:=["thing"]
noncomputable def kQ:CB:=
  (.cons (.ret (.and (.call "is_whole" (.cons (.var 0) .nil)) (.cmp .In (.var 0) (.tup (.cons (.con (.int 0)) (.cons (.con (.int 1)) .nil))))))
  .nil)
noncomputable def nG:List Str:=["thing"]
noncomputable def iV:List Str:=["thing"]
noncomputable def i9:CB:=
  (.cons (.iff (.or (.not (.bfn .isinstance (.cons (.var 0) (.cons (.ty .tuple) .nil)))) (.cmp .Gt (.bfn .len (.cons (.var 0) .nil)) (.glo "MOST_PLACES")))
  (.cons (.ret (.con (.bool false)))
  .nil)
  .nil)
  (.cons (.ret (.bfn .all (.cons (.comp ["part"] [] (.name 0) (.seq (.var 0)) .no (.call "is_reading" (.cons (.var 0) .nil))) .nil)))
  .nil))
end Cp
set_option maxHeartbeats 1000000
namespace Cp
open PySem PySem.Spec PyProof.Rows L2 R
noncomputable def dB:Option HO->String
 |some (.lst _)=>"list"
 |some (.frz _ (.lst _))=>"list"
 |some (.tup _)=>"tuple"
 |some (.dK _)=>"dict"
 |some (.dT _)=>"dict"
 |_=>"?"
noncomputable def tyName(H:Hp):V->String
 |.non=>"NoneType"
 |.bl _=>"bool"
 |.int _=>"int"
 |.str _=>"str"
 |.ref a=>dB (H a)
 |_=>"?"
noncomputable def Known(H:Hp)(x:V):Prop:=tyName H x≠"?"
theorem Known.same{H H':Hp}{x:V}(h:Known H x)(s:aN H H'):Known H' x/\tyName H' x=tyName H x:=by
 cases x with
 |ref a=>
  have h':dB (H a)≠"?":=h;show dB (H' a)≠"?"/\dB (H' a)=dB (H a);cases e:H a with
  |none=>rw[e]at h';exact absurd rfl h'
  |some o=>rw[s a o e];rw[e]at h';exact⟨h',rfl⟩
 |_=>exact⟨h,rfl⟩
theorem Known.ty{K:aa}{H:Hp}{x:V}(h:Known H x):iJ K H x (.type (tyName H x)):=by
 cases x with
 |non=>exact .non
 |bl b=>exact .bl b
 |int i=>exact .int i
 |str s=>exact .str s
 |ref a=>
  have h':dB (H a)≠"?":=h;show iJ K H (.ref a) (.type (dB (H a)));cases e:H a with
  |none=>rw[e]at h';exact absurd rfl h'
  |some o=>
   rw[e]at h';cases o with
   |lst xs=>exact .lst e
   |tup xs=>exact .tup e
   |dK kvs=>exact .dK e
   |dT kvs=>exact .dT e
   |frz ob u=>
    cases u with
    |lst xs=>exact .frz e
    |_=>exact absurd rfl h'
   |_=>exact absurd rfl h'
 |_=>exact absurd rfl h
theorem Known.mem{H:Hp}{x:V}(h:Known H x):tyName H x∈["NoneType","bool","int","str","list","tuple","dict"]:=by
 cases x with
 |ref a=>
  have h':dB (H a)≠"?":=h;show dB (H a)∈_;cases e:H a with
  |none=>rw[e]at h';exact absurd rfl h'
  |some o=>
   rw[e]at h';cases o with
   |lst xs=>simp[dB]
   |tup xs=>simp[dB]
   |dK kvs=>simp[dB]
   |dT kvs=>simp[dB]
   |frz ob u=>
    cases u with
    |lst xs=>simp[dB]
    |_=>exact absurd rfl h'
   |_=>exact absurd rfl h'
 |_=>first
  |exact absurd rfl h
  |simp[tyName]
noncomputable def cM(a b:String):Bool:=a==b||(a=="bool"&&b=="int")
theorem kit_ty(K:aa):∀(a:String)(t:Ty),a∈["NoneType","bool","int","str","list","tuple","dict"]->a6 K (.type a) (.type t.t)=some (cM a t.t):=by
 intro a t h;simp only[aA,bh,or_false]at h;rcases h with rfl|rfl|rfl|rfl|rfl|rfl|rfl<;>cases t<;>rfl
theorem isi{K:aa}{H:Hp}{x:V}{Q:VK}(h:Known H x)(t:Ty)(q:Q (.bl (cM (tyName H x) t.t)) H):rBf K .isinstance [x,.ty t.t] H Q:=
 .inl ⟨x,t.t,_,_,rfl,h.ty,kit_ty K _ t h.mem,q⟩
theorem n8{H:Hp}{i:Int}:Known H (.int i):=by show "int"≠"?";decide
theorem kn_bl{H:Hp}{i:Bool}:Known H (.bl i):=by show "bool"≠"?";decide
theorem kn_non{H:Hp}:Known H .non:=by show "NoneType"≠"?";decide
theorem rn{H:Hp}{x:Str}:Known H (.str x):=by show "str"≠"?";decide
theorem rm{H:Hp}{a:Addr}{xs:List V}(h:H a=some (.tup xs)):Known H (.ref a):=by show dB (H a)≠"?";rw[h];show "tuple"≠"?";decide
theorem rq{H:Hp}{a:Addr}{xs:List V}(h:H a=some (.lst xs)):Known H (.ref a):=by show dB (H a)≠"?";rw[h];show "list"≠"?";decide
theorem gS{H H1:Hp}{l:Addr}{o:HO}(s:aN H H1)(h:H l=none):aN H (upd H1 l o):=fun b u e=>by rw[aL (ba e h)];exact s b u e
noncomputable def isWhole:V->Bool
 |.int _=>true
 |_=>false
noncomputable def aK:V->Bool
 |.int i=>i==0||i==1
 |_=>false
noncomputable def spB(f:V->Bool):Sp:=fun vs H Q _=>∃x,vs=[x]/\Known H x/\∀H',aN H H'->Q (.bl (f x)) H'
theorem sub_int{H:Hp}{x:V}(h:Known H x):(cM (tyName H x) "int"&& !cM (tyName H x) "bool")=isWhole x:=by
 cases x with
 |ref a=>
  have h':dB (H a)≠"?":=h;show(cM (dB (H a)) "int"&& !cM (dB (H a)) "bool")=false;unfold dB;split <;>rfl
 |_=>rfl
theorem lY{G:Gam}{K:aa}:Sat G K (spB isWhole) oR nR:=by
 rintro vs H Q E ⟨x,rfl,hk,q⟩;unfold oR;change wpB G K _ _ _ [some x] H;walk_at "wp";refine isi hk .int ⟨_,rfl,?_⟩;have e:=sub_int hk;cases h1:cM (tyName H x) "int" with
 |false=>
  rw[h1,bT]at e;have q1:=q H (aN.refl H);rw[<-e]at q1;simpa[Ty.t,h1]using q1
 |true=>
  rw[h1,cG]at e;have q1:=q H (aN.refl H);rw[<-e]at q1;simp only[Ty.t,h1,if_true];exact isi hk .bool ⟨_,rfl,q1⟩
theorem pj{G:Gam}{K:aa}(g1:G.fn "is_whole" 1=some (spB isWhole,[])):
  Sat G K (spB aK) kQ kA:=by
 rintro vs H Q E ⟨x,rfl,hk,q⟩;unfold kQ;change wpB G K _ _ _ [some x] H;walk_at "wp";refine⟨_,_,g1,x,rfl,hk,fun H1 s1=>⟨_,rfl,?_⟩⟩;cases x with
 |int i=>
  refine⟨by decide,fun p hp=>.inr ⟨p,_,rfl,.inr (SqT.of ak),rfl,rfl,?_⟩⟩;have q1:=q _ (s1.trans (az (o:=.tup [.int 0,.int 1]) hp));have e:(if false=true then !inV (.int i) [.int 0,.int 1]else inV (.int i) [.int 0,.int 1])=aK (.int i):=by
   show((0:Int)==i||((1:Int)==i||false))=(i==0||i==1);rw[Bool.or_false,Bool.beq_comm,Bool.beq_comm (a:=(1:Int))]
  rw[e];exact q1
 |_=>exact q H1 s1
noncomputable def cw(c:Nat):Bool:=decide (97<=c/\c<=122)
noncomputable def bL(z:Str):Bool:=decide (1<=z.length/\z.length<=8)&&z.cps.toList.all cw
noncomputable def isName:V->Bool
 |.str z=>bL z
 |_=>false
noncomputable def LETTERS:Str:="abcdefghijklmnopqrstuvwxyz"
theorem tG(c:Nat):decide (c∈LETTERS.cps.toList)=cw c:=by
 unfold cw;rw[show LETTERS.cps.toList=List.range' 97 26 by decide+kernel,decide_eq_decide,List.mem_range'_1];exact⟨fun h=>⟨h.1,Nat.le_of_lt_succ h.2⟩,fun h=>⟨h.1,Nat.lt_succ_of_le h.2⟩⟩
theorem vp{K:aa}{H:Hp}{c:Nat}{Q:VK}(q:Q (.bl (cw c)) H):dR K .In (.str ⟨#[c]⟩) (.str LETTERS) H Q:=by
 refine .inl ⟨_,_,rfl,rfl,?_⟩;rw[StrLaws.found_one,tG];exact q
theorem nZ:(20000:Nat)<=sizeLine:=by decide
noncomputable def spN:Sp:=fun vs H Q _=>∃x,vs=[x]/\Known H x/\(∀z,x=.str z->z.length<=20000)/\∀H',aN H H'->Q (.bl (isName x)) H'
theorem sub_str{H:Hp}{x:V}(h:Known H x):cM (tyName H x) "str"=(match x with |.str _=>true|_=>false):=by
 cases x with
 |ref a=>
  show cM (dB (H a)) "str"=false;unfold dB;split <;>rfl
 |_=>rfl
theorem uG{G:Gam}{K:aa}(v1:G.val "LETTERS"=some (.str LETTERS))(v2:G.val "LONGEST_NAME"=some (.int 8)):
  Sat G K spN qo qb:=by
 rintro vs H Q E ⟨x,rfl,hk,hz,q⟩;unfold qo;change wpB G K _ _ _ [some x] H;walk_at "wp";refine isi hk .str ⟨_,rfl,?_⟩;rw[show Ty.t .str="str" from rfl,sub_str hk];cases x with
 |str z=>
  have hz:=hz z rfl;have hl:z.length<=sizeLine:=au hz nZ;have all:∀R:VK,(∀H',aN H H'->R (.bl (z.cps.toList.all cw)) H')->pQ (xW K (qC 0)) (ot 0) tYes (tOp (dR K .In) (qC 0) fun σ H Q=>∃v,G.val "LETTERS"=some v/\Q v H) (jh ["sign"] []) [some (.str z)] H fun x H2=>rBf K .all [x] H2 R:=by
   intro R hR;refine dD (ja rfl (cV qJ hl (fun _ _=>trivial) (fun i v _=>v=.bl (cw (z.cps.toList.getD i 0))) (fun _ _ _ _ _ h=>h) (fun τ=>∃t,τ=[t]) ⟨none,rfl⟩ ?_ ?_))
   ·rintro i x τ H3 R hi ⟨t,rfl⟩ s3 ⟨c,hc,rfl⟩ k
    refine⟨_,rfl,_,v1,vp (k _ _ _ ⟨_,rfl⟩ (aN.refl _) ?_)⟩;have :z.cps.toList[i]? =some c:=by simpa using hc
    rw[a8,this];rfl
   ·intro vs H2 l hvl hF s2 hl2
    have e:=bool_list hvl hF;subst e;refine⟨l,_,rfl,SqL.of ak,?_⟩;have e2:((aU z.length).map fun i=>cw (z.cps.toList.getD i 0)).all id=z.cps.toList.all cw:=by
     have :=kS z.cps.toList 0 cw
     rw[show z.cps.toList.length=z.length by simp[bX]]at this;exact this
    rw[e2];exact hR _ (s2.trans (az hl2))
  simp only[iG,bW,if_false,v2,ez,exists_eq_left',exists_eq_left,V.bl.injEq,V.int.injEq,Aj,len_s,hl,true_and];have q':∀H',aN H H'->Q (.bl (bL z)) H':=q;unfold bL at q';by_cases h1:1<=z.length
  ·by_cases h2:z.length<=8
   ·have e1:decide ((1:Int)<=z.length)=true:=decide_eq_true (by omega)
    have e2:decide ((z.length:Int)<=8)=true:=decide_eq_true (by omega);rw[decide_eq_true (And.intro h1 h2),cG]at q';simp only[e1,e2,if_true,iG,bW,if_false];exact all Q q'
   ·have e1:decide ((1:Int)<=z.length)=true:=decide_eq_true (by omega)
    have e2:decide ((z.length:Int)<=8)=false:=decide_eq_false (by omega);rw[decide_eq_false (fun h=>h2 h.2),bT]at q';simp only[e1,e2,if_true,Bool.not_false];exact q' H (aN.refl H)
  ·have e1:decide ((1:Int)<=z.length)=false:=decide_eq_false (by omega)
   rw[decide_eq_false (fun h=>h1 h.1),bT]at q';simp only[e1,bW,if_false,Bool.not_false,if_true];exact q' H (aN.refl H)
 |_=>exact q H (aN.refl H)
noncomputable def cH:Option HO->Option (List V)
 |some (.tup xs)=>some xs
 |_=>none
theorem hV{o:Option HO}{xs:List V}(h:cH o=some xs):o=some (.tup xs):=by
 unfold cH at h;split at h
 ·cases h;rfl
 ·cases h
theorem pR(o:Option HO):cM (dB o) "tuple"=(cH o).isSome:=by
 unfold dB;split <;>first
  |rfl
  |skip
 unfold cH;split <;>simp_all
 rfl
noncomputable def bU(H:Hp):V->Bool
 |.ref a=>match cH (H a)with
  |some xs=>decide (xs.length<=60)&&xs.all aK
  |none=>false
 |_=>false
noncomputable def spR:Sp:=fun vs H Q _=>∃x,vs=[x]/\Known H x/\(∀a xs,x=.ref a->H a=some (.tup xs)->xs.length<=20000/\∀y∈xs,Known H y)/\∀H',aN H H'->Q (.bl (bU H x)) H'
theorem mB{G:Gam}{K:aa}(g1:G.fn "is_reading" 1=some (spB aK,[]))(v1:G.val "MOST_PLACES"=some (.int 60)):
  Sat G K spR i9 iV:=by
 rintro vs H Q E ⟨x,rfl,hk,hx,q⟩;unfold i9;change wpB G K _ _ _ [some x] H;walk_at "wp";refine isi hk .tuple ⟨_,rfl,?_⟩;rw[show Ty.t .tuple="tuple" from rfl];cases x with
 |ref a=>
  show if(!cM (dB (H a)) "tuple")=true then _ else _
  rw[pR];have q0:∀H',aN H H'->Q (.bl (match cH (H a)with |some xs=>decide (xs.length<=60)&&xs.all aK|none=>false)) H':=q;cases e0:cH (H a)with
  |none=>
   rw[e0]at q0;exact q0 H (aN.refl H)
  |some xs=>
    rw[e0]at q0;have e:=hV e0;have q':∀H',aN H H'->Q (.bl (decide (xs.length<=60)&&xs.all aK)) H':=q0;obtain⟨hl,hy⟩:=hx a xs rfl e;have hl':xs.length<=sizeLine:=au hl nZ;simp only[eA,iG,bW,if_false];refine Or.inl ⟨a,xs,rfl,.inr (SqT.of e),_,v1,?_⟩;rw[As];refine⟨_,rfl,?_⟩;by_cases hle:xs.length<=60
    ·rw[decide_eq_true hle,cG]at q'
     have e1:decide ((60:Int)<xs.length)=false:=decide_eq_false (by omega);rw[e1];simp only[bW,if_false];refine dD (ua rfl (SqT.of e) (cV vP hl' (fun H1 s1=>s1.tup (SqT.of e)) (fun i v _=>v=.bl (aK (xs.getD i .non))) (fun _ _ _ _ _ h=>h) (fun τ=>∃t,τ=[t]) ⟨none,rfl⟩ ?_ ?_))
     ·rintro i y τ H3 R hi ⟨t,rfl⟩ s3 hy3 k
      have hym:y∈xs:=a7 hy3;exact⟨_,_,g1,y,rfl,y,rfl,((hy y hym).same s3).1,fun H4 s4=>k _ _ _ ⟨_,rfl⟩ s4 (by rw[getD_some hy3])⟩
     ·intro vs H2 l hvl hF s2 hl2
      have e:=bool_list hvl hF;subst e;refine⟨l,_,rfl,SqL.of ak,?_⟩;rw[kS xs .non aK];exact q' _ (s2.trans (az hl2))
    ·rw[decide_eq_false hle,bT]at q'
     have e1:decide ((60:Int)<xs.length)=true:=decide_eq_true (by omega);rw[e1];simpa using q' H (aN.refl H)
 |_=>exact q H (aN.refl H)
end Cp
namespace Cp
open PySem R
noncomputable def xH:List Str:=["thing"]
noncomputable def qd:List Str:=["thing"]
noncomputable def qp:CB:=
  (.cons (.iff (.or (.not (.bfn .isinstance (.cons (.var 0) (.cons (.ty .tuple) .nil)))) (.cmp .NotEq (.bfn .len (.cons (.var 0) .nil)) (.con (.int 2))))
  (.cons (.ret (.con (.bool false)))
  .nil)
  .nil)
  (.cons (.ret (.and (.call "is_name" (.cons (.idx (.var 0) (.con (.int 0))) .nil)) (.call "are_readings" (.cons (.idx (.var 0) (.con (.int 1))) .nil))))
  .nil))
noncomputable def ve:List Str:=["thing"]
noncomputable def nS:List Str:=["thing","names","counts"]
noncomputable def oS:CB:=
  (.cons (.iff (.or (.not (.bfn .isinstance (.cons (.var 0) (.cons (.ty .list) .nil)))) (.cmp .Gt (.bfn .len (.cons (.var 0) .nil)) (.glo "MOST_COPIES")))
  (.cons (.ret (.con (.bool false)))
  .nil)
  .nil)
  (.cons (.iff (.not (.bfn .all (.cons (.comp ["part"] [] (.name 0) (.seq (.var 0)) .no (.call "is_copy" (.cons (.var 0) .nil))) .nil)))
  (.cons (.ret (.con (.bool false)))
  .nil)
  .nil)
  (.cons (.asgc 1 (.comp ["name","readings"] [] (.tup (.cons (.name 0) (.cons (.name 1) .nil))) (.seq (.var 0)) .no (.var 0)))
  (.cons (.asgc 2 (.comp ["name","readings"] [] (.tup (.cons (.name 0) (.cons (.name 1) .nil))) (.seq (.var 0)) .no (.bfn .len (.cons (.var 1) .nil))))
  (.cons (.ret (.and (.cmp .Eq (.bfn .len (.cons (.bfn .set (.cons (.var 1) .nil)) .nil)) (.bfn .len (.cons (.var 1) .nil))) (.cmp .LtE (.bfn .len (.cons (.bfn .set (.cons (.var 2) .nil)) .nil)) (.con (.int 1)))))
  .nil)))))
end Cp
namespace Cp
open PySem PySem.Spec PyProof.Rows L2 R
noncomputable def Kn1(H:Hp)(x:V):Prop:=Known H x/\∀z,x=.str z->z.length<=20000
noncomputable def Kn2(H:Hp)(x:V):Prop:=Kn1 H x/\∀a xs,x=.ref a->H a=some (.tup xs)->xs.length<=20000/\∀y∈xs,Kn1 H y
noncomputable def Kn3(H:Hp)(x:V):Prop:=Kn1 H x/\∀a xs,x=.ref a->H a=some (.tup xs)->xs.length<=20000/\∀y∈xs,Kn2 H y
noncomputable def jG:Option HO->Option (List V)
 |some (.lst xs)=>some xs
 |some (.frz _ (.lst xs))=>some xs
 |_=>none
noncomputable def Kn4(H:Hp)(x:V):Prop:=Kn1 H x/\∀a xs,x=.ref a->jG (H a)=some xs->xs.length<=20000/\∀y∈xs,Kn3 H y
theorem qw{H H':Hp}{a:Addr}{o:HO}(s:aN H H')(k:H a≠none)(h:H' a=some o):H a=some o:=by
 cases e:H a with
 |none=>exact absurd e k
 |some u=>rw[s a u e]at h;exact h
theorem Known.some{H:Hp}{a:Addr}(k:Known H (.ref a)):H a≠none:=fun e=>by
 have k':dB (H a)≠"?":=k;rw[e]at k';exact k' rfl
theorem Kn1.same{H H':Hp}{x:V}(h:Kn1 H x)(s:aN H H'):Kn1 H' x:=⟨(h.1.same s).1,h.2⟩
theorem Kn2.same{H H':Hp}{x:V}(h:Kn2 H x)(s:aN H H'):Kn2 H' x:=⟨h.1.same s,fun a xs e hx=>by
 subst e;obtain⟨l,k⟩:=h.2 a xs rfl (qw s h.1.1.some hx);exact⟨l,fun y hy=>(k y hy).same s⟩⟩
theorem Kn3.same{H H':Hp}{x:V}(h:Kn3 H x)(s:aN H H'):Kn3 H' x:=⟨h.1.same s,fun a xs e hx=>by
 subst e;obtain⟨l,k⟩:=h.2 a xs rfl (qw s h.1.1.some hx);exact⟨l,fun y hy=>(k y hy).same s⟩⟩
theorem qx{H H':Hp}{x:V}(h:Known H x)(s:aN H H'):bU H' x=bU H x:=by
 cases x with
 |ref a=>
  show(match cH (H' a)with |some xs=>_|none=>_)=(match cH (H a)with |some xs=>_|none=>_);cases e:H a with
  |none=>exact absurd e h.some
  |some o=>rw[s a o e]
 |_=>rfl
noncomputable def cK(H:Hp):V->Bool
 |.ref a=>match cH (H a)with
  |some [n,r]=>isName n&&bU H r
  |_=>false
 |_=>false
theorem x5{H H':Hp}{x:V}(h:Kn3 H x)(s:aN H H'):cK H' x=cK H x:=by
 cases x with
 |ref a=>
  show(match cH (H' a)with |some [n,r]=>_|_=>_)=(match cH (H a)with |some [n,r]=>_|_=>_);cases e:H a with
  |none=>exact absurd e h.1.1.some
  |some o=>
   rw[s a o e];cases o with
   |tup xs=>
    match xs with
    | []=>rfl
    | [_]=>rfl
    | [n,r]=>
     have k:=(h.2 a _ rfl e).2 r (by simp);show(isName n&&bU H' r)=(isName n&&bU H r);rw[qx k.1.1 s]
    |_::_::_::_=>rfl
   |_=>rfl
 |_=>rfl
noncomputable def spC:Sp:=fun vs H Q _=>∃x,vs=[x]/\Kn3 H x/\∀H',aN H H'->Q (.bl (cK H x)) H'
theorem uH{G:Gam}{K:aa}(g1:G.fn "is_name" 1=some (spN,[]))(g2:G.fn "are_readings" 1=some (spR,[])):
  Sat G K spC qp qd:=by
 rintro vs H Q E ⟨x,rfl,hk,q⟩;unfold qp;change wpB G K _ _ _ [some x] H;walk_at "wp";refine isi hk.1.1 .tuple ⟨_,rfl,?_⟩;rw[show Ty.t .tuple="tuple" from rfl];cases x with
 |ref a=>
  show if(!cM (dB (H a)) "tuple")=true then _ else _
  rw[pR];have q0:∀H',aN H H'->Q (.bl (match cH (H a)with |some [n,r]=>isName n&&bU H r|_=>false)) H':=q;cases e0:cH (H a)with
  |none=>
   rw[e0]at q0;exact q0 H (aN.refl H)
  |some xs=>
   have e:=hV e0;rw[e0]at q0;obtain⟨hl,hy⟩:=hk.2 a xs rfl e;simp only[eA,iG,bW,if_false];refine Or.inl ⟨a,xs,rfl,.inr (SqT.of e),?_⟩;show dR K .NotEq (.int (xs.length:Int)) (.int 2) H _;rw[tu];refine⟨_,rfl,?_⟩
   match xs,hl,hy,e,q0 with
   | [],_,_,_,q0=>exact q0 H (aN.refl H)
   | [_],_,_,_,q0=>exact q0 H (aN.refl H)
   |_::_::_::r,_,_,_,q0=>
    rw[if_pos (by simp;omega)];exact q0 H (aN.refl H)
   | [n,r],_,hy,e,q0=>
    rw[if_neg (by simp)];have kn:=hy n (by simp);have kr:=hy r (by simp);refine⟨_,_,g1,.inr (.inl ⟨a,[n,r],0,n,rfl,rfl,SqT.of e,rfl,n,rfl,kn.1.1,kn.1.2,fun H1 s1=>⟨_,rfl,?_⟩⟩)⟩;have q1:∀H',aN H H'->Q (.bl (isName n&&bU H r)) H':=q0;cases en:isName n with
    |false=>
     rw[en,bT]at q1;rw[if_neg aP];exact q1 H1 s1
    |true=>
     rw[en,cG]at q1;rw[if_pos rfl];have kr1:=kr.same s1;refine⟨_,_,g2,.inr (.inl ⟨a,[n,r],1,r,rfl,rfl,s1.tup (SqT.of e),rfl,r,rfl,kr1.1.1,fun b ys eb hb=>?_,fun H2 s2=>?_⟩)⟩
     ·obtain⟨l,k⟩:=kr1.2 b ys eb hb
      exact⟨l,fun y hy=>(k y hy).1⟩
     ·rw[qx kr.1.1 s1]
      exact q1 H2 (s1.trans s2)
 |_=>exact q H (aN.refl H)
theorem nW{xs vs:List V}{f:V->V}(hl:vs.length=xs.length)(h:∀(i:Nat) v,vs[i]? =some v->v=f (xs.getD i .non)):vs=xs.map f:=by
 apply fN
 ·simp[hl]
 ·intro i h1 h2
  have h3:i<xs.length:=by omega
  have :=h i vs[i] (by simp[h1])
  rw[this,List.getElem_map,a8,ah h3];rfl
theorem p8:∀(l:List Str),(l.map (cF:Str->Key)).Nodup↔l.Nodup
 | []=>by simp
 |x::l=>by
  rw[bo,eM,eM,p8 l];have e:cF x∈l.map (cF:Str->Key)↔x∈l:=by
   constructor
   ·intro h
    obtain⟨y,hy,e⟩:=bA.mp h;injection e with e
    rw[<-e];exact hy
   ·exact fun h=>bA.mpr ⟨x,h,rfl⟩
  rw[e]
theorem oh{K:aa}{H:Hp}{a:Addr}{xs:List V}(h:jG (H a)=some xs):SqL K H a xs:=by
 unfold jG at h;split at h
 ·rename_i e;cases h;exact .inl (.inl e)
 ·rename_i o _ e;cases h;exact .inl (.inr ⟨o,e⟩)
 ·cases h
theorem yV(o:Option HO):cM (dB o) "list"=(jG o).isSome:=by
 unfold dB;split <;>first
  |rfl
  |skip
 unfold jG;split <;>simp_all
 rfl
noncomputable def bF(H:Hp):V->Str
 |.ref a=>match cH (H a)with
  |some (.str z::_)=>z
  |_=>""
 |_=>""
noncomputable def b8(H:Hp):V->Nat
 |.ref a=>match cH (H a)with
  |some [_,.ref b]=>(cH (H b)).elim 0 ik
  |_=>0
 |_=>0
theorem vx{H:Hp}{x:V}(h:cK H x=true):∃a z b ys,x=.ref a/\H a=some (.tup [.str z,.ref b])/\H b=some (.tup ys)/\bL z=true/\ys.length<=60/\(∀y∈ys,aK y=true)/\bF H x=z/\b8 H x=ys.length:=by
 cases x with
 |ref a=>
  have h':(match cH (H a)with |some [n,r]=>isName n&&bU H r|_=>false)=true:=h;split at h'
  ·rename_i n r e
   rw[ae]at h';obtain⟨h1,h2⟩:=h';cases n with
   |str z=>
    cases r with
    |ref b=>
     have h3:(match cH (H b)with |some xs=>decide (xs.length<=60)&&xs.all aK|none=>false)=true:=h2;split at h3
     ·rename_i ys eb
      rw[ae,decide_eq_true_eq,aM]at h3;refine⟨a,z,b,ys,rfl,hV e,hV eb,h1,h3.1,h3.2,?_,?_⟩
      ·show(match cH (H a)with |some (.str z::_)=>z|_=>"")=z
       rw[e]
      ·show(match cH (H a)with |some [_,.ref b]=>(cH (H b)).elim 0 ik|_=>0)=ys.length
       rw[e];show(cH (H b)).elim 0 ik=ys.length;rw[eb];rfl
     ·cases h3
    |_=>cases h2
   |_=>cases h1
  ·cases h'
 |_=>cases h
noncomputable def kD(H:Hp):V->Bool
 |.ref a=>match jG (H a)with
  |some xs=>decide (xs.length<=40)&&(xs.all (cK H)&&(decide ((xs.map (bF H)).Nodup)&&decide (∀y∈xs,∀z∈xs,b8 H y=b8 H z)))
  |none=>false
 |_=>false
noncomputable def spT:Sp:=fun vs H Q _=>∃x,vs=[x]/\Kn4 H x/\∀H',aN H H'->Q (.bl (kD H x)) H'
theorem sx{G:Gam}{K:aa}(g1:G.fn "is_copy" 1=some (spC,[]))(v1:G.val "MOST_COPIES"=some (.int 40)):
  Sat G K spT oS nS:=by
 rintro vs H Q E ⟨x,rfl,hk,q⟩;unfold oS;change wpB G K _ _ _ [some x,none,none] H;walk_at "wp";refine isi hk.1.1 .list ⟨_,rfl,?_⟩;rw[show Ty.t .list="list" from rfl];cases x with
 |ref a=>
  show if(!cM (dB (H a)) "list")=true then _ else _
  rw[yV];have q0:∀H',aN H H'->Q (.bl (match jG (H a)with |some xs=>decide (xs.length<=40)&&(xs.all (cK H)&&(decide ((xs.map (bF H)).Nodup)&&decide (∀y∈xs,∀z∈xs,b8 H y=b8 H z))) |none=>false)) H':=q;cases e0:jG (H a)with
  |none=>
   rw[e0]at q0;exact q0 H (aN.refl H)
  |some xs=>
   rw[e0]at q0;obtain⟨hl,hy⟩:=hk.2 a xs rfl e0;have hl':xs.length<=sizeLine:=au hl nZ;simp only[eA,iG,bW,if_false];refine Or.inl ⟨a,xs,rfl,.inl (oh e0),_,v1,?_⟩;rw[As];refine⟨_,rfl,?_⟩;by_cases hle:xs.length<=40
   ·rw[decide_eq_false (by omega:¬(40:Int)<xs.length),if_neg aP]
    have qq:∀H',aN H H'->Q (.bl (xs.all (cK H)&&(decide ((xs.map (bF H)).Nodup)&&decide (∀y∈xs,∀z∈xs,b8 H y=b8 H z)))) H':=fun H' s'=>by
     have z:Q (.bl (decide (xs.length<=40)&&(xs.all (cK H)&&(decide ((xs.map (bF H)).Nodup)&&decide (∀y∈xs,∀z∈xs,b8 H y=b8 H z))))) H':=q0 H' s';rw[decide_eq_true hle,cG]at z;exact z
    have sq:∀{H1:Hp},aN H H1->SqL K H1 a xs:=fun s1=>s1.seq (oh e0);refine dD (eJ rfl (oh e0) (cV gR hl' (fun H1 s1=>sq s1) (fun i v _=>v=.bl (cK H (xs.getD i .non))) (fun _ _ _ _ _ h=>h) (fun τ=>∃t,τ=[t]) ⟨none,rfl⟩ ?_ ?_))
    ·rintro i y τ H3 R hi ⟨t,rfl⟩ s3 hy3 k
     have ky:=hy y (a7 hy3);exact⟨_,_,g1,y,rfl,y,rfl,ky.same s3,fun H4 s4=>k _ _ _ ⟨_,rfl⟩ s4 (by rw[getD_some hy3,x5 ky s3])⟩
    intro vs H2 l hvl hF s2 hl2;have e:=bool_list hvl hF;subst e;refine⟨l,_,rfl,SqL.of ak,_,rfl,?_⟩;rw[kS xs .non (cK H)];have s3:aN H (upd H2 l (.lst (((aU xs.length).map fun i=>cK H (xs.getD i .non)).map V.bl))):=s2.trans (az hl2);generalize upd H2 l (.lst (((aU xs.length).map fun i=>cK H (xs.getD i .non)).map V.bl))=H3 at s3;cases ea:xs.all (cK H)with
    |false=>
     rw[ea,bT]at qq;rw[if_pos (by rfl)];exact qq H3 s3
    |true=>
     rw[ea,cG]at qq;rw[if_neg (by simp)];rw[aM]at ea;have sh:∀{i:Nat}{y:V},xs[i]? =some y->∃a z b ys,y=.ref a/\H a=some (.tup [.str z,.ref b])/\H b=some (.tup ys)/\bF H y=z/\b8 H y=ys.length:=fun hy3=>by
      obtain⟨a,z,b,ys,h1,h2,h3,_,_,_,h7,h8⟩:=vx (ea _ (a7 hy3));exact⟨a,z,b,ys,h1,h2,h3,h7,h8⟩
     refine dD (eJ rfl (sq s3) (cV gR hl' (fun H1 s1=>sq (s3.trans s1)) (fun i v _=>v=.str (bF H (xs.getD i .non))) (fun _ _ _ _ _ h=>h) (fun τ=>∃t u,τ=[t,u]) ⟨none,none,rfl⟩ ?_ ?_))
     ·rintro i y τ H4 R hi ⟨t,u,rfl⟩ s4 hy3 k
      obtain⟨b,z,c,ys,rfl,h1,h2,h3,h4⟩:=sh hy3;refine⟨b,_,rfl,(s3.trans s4).tup (SqT.of h1),rfl,_,_,rfl,_,_,rfl,rfl,_,rfl,k _ _ _ ⟨_,_,rfl⟩ (aN.refl _) ?_⟩;rw[getD_some hy3,h3]
     intro vs1 H4 l1 hvl1 hF1 s4 hl4;have e1:vs1=xs.map fun y=>V.str (bF H y):=nW hvl1 hF1;subst e1;have s5:aN H (upd H4 l1 (.lst (xs.map fun y=>V.str (bF H y)))):=s3.trans (s4.trans (az hl4));have n1:SqL K (upd H4 l1 (.lst (xs.map fun y=>V.str (bF H y)))) l1 (xs.map fun y=>V.str (bF H y)):=SqL.of ak;generalize upd H4 l1 (.lst (xs.map fun y=>V.str (bF H y)))=H5 at s5 n1;refine dD (eJ rfl (sq s5) (cV gR hl' (fun H1 s1=>sq (s5.trans s1)) (fun i v _=>v=.int (b8 H (xs.getD i .non))) (fun _ _ _ _ _ h=>h) (fun τ=>∃t u,τ=[t,u]) ⟨none,none,rfl⟩ ?_ ?_))
     ·rintro i y τ H6 R hi ⟨t,u,rfl⟩ s6 hy3 k
      obtain⟨b,z,c,ys,rfl,h1,h2,h3,h4⟩:=sh hy3;refine⟨b,_,rfl,(s5.trans s6).tup (SqT.of h1),rfl,_,_,rfl,_,_,rfl,rfl,_,rfl,Or.inl ⟨c,ys,rfl,.inr ((s5.trans s6).tup (SqT.of h2)),k _ _ _ ⟨_,_,rfl⟩ (aN.refl _) ?_⟩⟩;rw[getD_some hy3,h4]
     intro vs2 H6 l2 hvl2 hF2 s6 hl6;have e2:vs2=xs.map fun y=>V.int (b8 H y):=nW hvl2 hF2;subst e2;have s7:aN H5 (upd H6 l2 (.lst (xs.map fun y=>V.int (b8 H y)))):=s6.trans (az hl6);have n2:SqL K (upd H6 l2 (.lst (xs.map fun y=>V.int (b8 H y)))) l2 (xs.map fun y=>V.int (b8 H y)):=SqL.of ak;generalize upd H6 l2 (.lst (xs.map fun y=>V.int (b8 H y)))=H7 at s7 n2;have ek1:(xs.map fun y=>(cF (bF H y):Key)).map kV=xs.map fun y=>V.str (bF H y):=by rw[dY];rfl
     have ek2:(xs.map fun y=>(fw (b8 H y:Int):Key)).map kV=xs.map fun y=>V.int (b8 H y):=by rw[dY];rfl
     refine⟨l1,xs.map fun y=>(cF (bF H y):Key),rfl,by rw[ek1];exact s7.seq n1,by rw[av];omega,fun c1 hc1=>?_⟩;refine .inr (.inr ⟨c1,_,rfl,ak,?_⟩);have s8:aN H7 (upd H7 c1 (_root_.Q.uV c1 (_root_.Q.met (xs.map fun y=>(cF (bF H y):Key))).length)):=az hc1;generalize upd H7 c1 (_root_.Q.uV c1 (_root_.Q.met (xs.map fun y=>(cF (bF H y):Key))).length)=H8 at s8;refine Or.inl ⟨l1,_,rfl,.inl (s8.seq (s7.seq n1)),?_⟩;show dR K .Eq (.int ((_root_.Q.met (xs.map fun y=>(cF (bF H y):Key))).length:Int)) (.int ((xs.map fun y=>V.str (bF H y)).length:Int)) H8 _;rw[wJ];refine⟨_,rfl,?_⟩;have hnd:decide (((_root_.Q.met (xs.map fun y=>(cF (bF H y):Key))).length:Int)=((xs.map fun y=>V.str (bF H y)).length:Int))=decide ((xs.map (bF H)).Nodup):=by
      rw[decide_eq_decide,av];have hm:(xs.map fun y=>(cF (bF H y):Key)).Nodup↔(xs.map (bF H)).Nodup:=by
       have :(xs.map fun y=>(cF (bF H y):Key))=(xs.map (bF H)).map cF:=by rw[dY];rfl
       rw[this];exact p8 _
      constructor
      ·intro z
       refine hm.mp (_root_.Q.rg ?_);rw[av];exact Int.ofNat.inj z
      ·intro z
       rw[_root_.Q.xN (hm.mpr z),av]
     rw[hnd];have s9:aN H H8:=s5.trans (s7.trans s8);cases en:decide ((xs.map (bF H)).Nodup)with
     |false=>
      rw[en,bT]at qq;rw[if_neg aP];exact qq H8 s9
     |true=>
      rw[en,cG]at qq;rw[if_pos rfl];refine⟨l2,xs.map fun y=>(fw (b8 H y:Int):Key),rfl,by rw[ek2];exact s8.seq n2,by rw[av];omega,fun c2 hc2=>?_⟩;refine .inr (.inr ⟨c2,_,rfl,ak,?_⟩);show dR K .LtE (.int ((_root_.Q.met (xs.map fun y=>(fw (b8 H y:Int):Key))).length:Int)) (.int 1) _ Q;rw[Aj];have hone:decide (((_root_.Q.met (xs.map fun y=>(fw (b8 H y:Int):Key))).length:Int)<=1)=decide (∀y∈xs,∀z∈xs,b8 H y=b8 H z):=by
       rw[decide_eq_decide];have h1:((_root_.Q.met (xs.map fun y=>(fw (b8 H y:Int):Key))).length:Int)<=1↔(_root_.Q.met (xs.map fun y=>(fw (b8 H y:Int):Key))).length<=1:=by omega
       rw[h1,_root_.Q.met_one];constructor
       ·intro z y hy1 y' hy2
        have :=z _ (bA.mpr ⟨y,hy1,rfl⟩) _ (bA.mpr ⟨y',hy2,rfl⟩)
        injection this with this;omega
       ·intro z k1 hk1 k2 hk2
        obtain⟨y,hy1,rfl⟩:=bA.mp hk1;obtain⟨y',hy2,rfl⟩:=bA.mp hk2;rw[z y hy1 y' hy2]
      rw[hone];exact qq _ (s9.trans (az hc2))
   ·rw[decide_eq_true (by omega:(40:Int)<xs.length),if_pos rfl]
    have q1:Q (.bl (decide (xs.length<=40)&&(xs.all (cK H)&&(decide ((xs.map (bF H)).Nodup)&&decide (∀y∈xs,∀z∈xs,b8 H y=b8 H z))))) H:=q0 H (aN.refl H);rw[decide_eq_false hle,bT]at q1;exact q1
 |_=>exact q H (aN.refl H)
theorem zV:(1:Nat)<=sizeLine:=by decide
theorem dn{v:V}(h:aK v=true):v=.int 0\/v=.int 1:=by
 cases v with
 |int i=>
  have h':(i==0||i==1)=true:=h;rw[bK,beq_iff_eq,beq_iff_eq]at h';rcases h' with rfl|rfl
  ·exact .inl rfl
  ·exact .inr rfl
 |_=>cases h
end Cp
namespace Lt
open PySem R
noncomputable def pz:List Str:=["_law_script","_law_k"]
noncomputable def jF:List Str:=["_law_script","_law_k"]
noncomputable def jM:CB:=
  (.cons (.iff (.cmp .Lt (.var 1) (.bfn .len (.cons (.var 0) .nil)))
  (.cons (.ret (.idx (.var 0) (.var 1)))
  .nil)
  .nil)
  (.cons (.ret (.con (.int 0)))
  .nil))
noncomputable def sV:List Str:=["_law_cell","_law_k"]
noncomputable def lZ:List Str:=["_law_cell","_law_k"]
noncomputable def mo:CB:=
  (.cons (.iff (.and (.cmp .Eq (.bin .Mod (.var 0) (.con (.int 2))) (.con (.int 1))) (.cmp .Gt (.var 0) (.bin .Pow (.con (.int 10)) (.con (.int 12)))))
  (.cons (.ret (.bin .Mod (.bin .FloorDiv (.var 0) (.con (.int 2))) (.bin .Pow (.con (.int 10)) (.con (.int 60)))))
  .nil)
  .nil)
  (.cons (.ret (.bin .Mod (.bin .Mult (.bin .Add (.bin .Mod (.var 0) (.bin .Pow (.con (.int 10)) (.con (.int 30)))) (.con (.int 1))) (.bin .Add (.con (.int 48271)) (.bin .Mult (.bin .Mult (.con (.int 7919)) (.var 1)) (.var 1)))) (.con (.int 2147483629))))
  .nil))
noncomputable def fS:CB:=
  (.cons (.ret (.bin .Add (.bin .Add (.bin .Add (.cut (.var 3) .no (.yes (.var 5))) (.var 6)) (.cut (.var 3) (.yes (.var 5)) .no)) (.idx (.var 2) (.bin .Mod (.bin .Add (.bin .FloorDiv (.var 1) (.con (.int 26))) (.bin .FloorDiv (.var 0) (.con (.int 17)))) (.con (.int 26))))))
  .nil)
noncomputable def fT:CB:=
  (.cons (.asg (.name 6) (.idx (.var 2) (.bin .Mod (.bin .Add (.bin .FloorDiv (.var 0) (.con (.int 13))) (.bin .Mult (.con (.int 7)) (.var 1))) (.con (.int 26)))))
  fS)
noncomputable def fU:CB:=
  (.cons (.asg (.name 5) (.bin .Mod (.bin .FloorDiv (.var 0) (.con (.int 77))) (.bin .Add (.bfn .len (.cons (.var 3) .nil)) (.con (.int 1)))))
  fT)
noncomputable def eI:CB:=
  (.cons (.forr (.name 4) (.range1 (.bin .Mod (.var 0) (.con (.int 7))))
  (.cons (.asg (.name 3) (.bin .Add (.var 3) (.idx (.var 2) (.bin .Mod (.bin .Add (.bin .FloorDiv (.bin .Mod (.bin .FloorDiv (.var 0) (.con (.int 7))) (.con (.int 1000003))) (.bin .Add (.var 4) (.con (.int 1)))) (.var 4)) (.con (.int 26))))))
  .nil))
  fU)
noncomputable def dF:CB:=
  (.cons (.asg (.name 3) (.con (.str "")))
  eI)
noncomputable def nC:List Str:=["_law_drawn","_law_many"]
noncomputable def iU:List Str:=["_law_drawn","_law_many"]
noncomputable def i8:CB:=
  (.cons (.iff (.cmp .GtE (.var 0) (.bin .Pow (.con (.int 10)) (.con (.int 12))))
  (.cons (.ret (.bfn .tuple (.cons (.comp ["_law_j"] [0] (.name 0) (.range1 (.var 1)) .no (.bin .Mod (.bin .RShift (.bin .FloorDiv (.var 1) (.bin .Pow (.con (.int 10)) (.con (.int 9)))) (.var 0)) (.con (.int 2)))) .nil)))
  .nil)
  .nil)
  (.cons (.ret (.bfn .tuple (.cons (.comp ["_law_j"] [0] (.name 0) (.range1 (.var 1)) .no (.bin .Mod (.bin .FloorDiv (.bin .Mod (.bin .Mult (.var 1) (.bin .Add (.con (.int 48271)) (.bin .Mult (.con (.int 69621)) (.var 0)))) (.con (.int 2147483647))) (.con (.int 7))) (.con (.int 2)))) .nil)))
  .nil))
end Lt
namespace Lt
open PySem PySem.Spec PyProof.Rows L2 R Cp
theorem AH{i j:Int}(h0:0<=j)(h1:j<18446744073709551616):pH i j:=.inr ⟨by omega,by omega⟩
theorem wL{i j:Int}(h0:0<=i)(h1:i<18446744073709551616):pH i j:=.inl ⟨by omega,by omega⟩
noncomputable def jS(K:aa):Sp:=fun vs H Q _=>∃(a:Addr)(ns:List Int)(k:Nat),vs=[.ref a,.int k]/\SqL K H a (ns.map V.int)/\Q (.int (ns.getD k 0)) H
theorem wp_cell{G:Gam}{K:aa}:Sat G K (jS K) jM jF:=by
 rintro vs H Q E ⟨a,ns,k,rfl,hs,q⟩;unfold jM;change wpB G K _ _ _ [some (.ref a),some (.int k)] H;walk_at "wp";refine Or.inl ⟨a,_,rfl,.inl hs,?_⟩;show dR K .Lt (.int (k:Int)) (.int ((ns.map V.int).length:Int)) H _;rw[Ae,av];refine⟨_,rfl,?_⟩;by_cases hk:k<ns.length
 ·rw[decide_eq_true (by omega:(k:Int)<(ns.length:Int)),if_pos rfl]
  refine .inl ⟨a,_,k,_,rfl,rfl,hs,ib (j:=k) (v:=.int (ns.getD k 0)) ?_,q⟩;rw[bw,ah hk,a8,ah hk];rfl
 ·rw[decide_eq_false (by omega:¬(k:Int)<(ns.length:Int)),if_neg aP]
  rw[a8,List.getElem?_eq_none (by omega)]at q;exact q
noncomputable def qE:Sp:=fun vs H Q _=>∃c k:Int,vs=[.int c,.int k]/\0<=k/\k<=100/\∀d:Int,0<=d->Q (.int d) H
theorem yD{G:Gam}{K:aa}:Sat G K qE mo lZ:=by
 rintro vs H Q E ⟨c,k,rfl,hk0,hk1,q⟩;unfold mo;change wpB G K _ _ _ [some (.int c),some (.int k)] H;walk_at "wp";have hkk:0<=7919*k*k/\7919*k*k<=79190000:=by
  have h1:0<=k*k:=Int.mul_nonneg hk0 hk0;have h2:k*k<=100*100:=Int.mul_le_mul hk1 hk1 hk0 (by decide);rw[Int.mul_assoc];omega
 have last:yl 10 30/\0<(10:Int)^lb 30/\pH 7919 k/\pH (7919*k) k/\pH (c%10^lb 30+1) (48271+7919*k*k)/\(0:Int)<2147483629/\Q (V.int ((c%10^lb 30+1)*(48271+7919*k*k)%2147483629)) H:=
  ⟨⟨by decide,by decide,by decide⟩,by decide,wL (by decide) (by decide),AH hk0 (by omega),AH (by omega) (by omega),by decide,q _ (bu _ (by decide))⟩
 refine⟨by decide,?_⟩;split
 ·refine⟨⟨by decide,by decide,by decide⟩,?_⟩
  split
  ·exact⟨⟨by decide,by decide⟩,⟨by decide,by decide,by decide⟩,by decide,q _ (bu _ (by decide))⟩
  ·exact last
 ·exact last
noncomputable def yX:Sp:=fun vs H Q _=>∃(d:Int)(n:Nat),vs=[.int d,.int n]/\0<=d/\n<=60/\∀(H':Hp)(b:Addr)(ys:List V),aN H H'->H b=none->H' b=some (.tup ys)->ys.length=n->(∀y∈ys,aK y=true)->Q (.ref b) H'
theorem mod2(x:Int):aK (.int (x%2))=true:=by
 have h0:0<=x%2:=bu _ (by decide);have h1:x%2<2:=bZ _ (by decide);have h:x%2=0\/x%2=1:=by omega
 rcases h with h|h<;>rw[h]<;>rfl
theorem sr{G:Gam}{K:aa}:Sat G K yX i8 iU:=by
 rintro vs H Q E ⟨d,n,rfl,hd,hn,q⟩;unfold i8;change wpB G K _ _ _ [some (.int d),some (.int n)] H;walk_at "wp";have fin:∀(vs:List V)(H2:Hp)(l:Addr),vs.length=n->(∀(i:Nat) v,vs[i]? =some v->aK v=true)->aN H H2->H2 l=none->rBf K .tuple [.ref l] (upd H2 l (.lst vs)) Q:=by
  intro vs H2 l hvl hF s2 hl2;refine⟨l,vs,rfl,.inl ⟨SqL.of ak,fun b hb=>q _ b vs (s2.trans ((az hl2).trans (az hb))) ((s2.trans (az hl2)).free hb) ak hvl fun y hy=>?_⟩⟩;obtain⟨i,hi⟩:=fL.mp hy;exact hF i y hi
 have line:n<=sizeLine:=au hn (by decide);refine⟨⟨by decide,by decide,by decide⟩,?_⟩;split
 ·refine dD ?_
  walk_at "wp"
  refine⟨(n:Int),rfl,by omega,by omega,?_⟩;refine cV ji (by omega) (fun _ _=>trivial) (fun i v _=>aK v=true) (fun _ _ _ _ _ h=>h) (fun τ=>∃t,τ=[t,some (.int d)]) ⟨none,rfl⟩ ?_ ?_
  ·rintro i x τ H3 R hi ⟨t,rfl⟩ s3 rfl k
   walk_at "wp"
   exact⟨⟨by decide,by decide,by decide⟩,⟨by decide,by decide⟩,by omega,by decide,k _ _ _ ⟨_,rfl⟩ (aN.refl _) (mod2 _)⟩
  ·intro vs H2 l hvl hF s2 hl2
   exact fin vs H2 l (by omega) hF s2 hl2
 ·refine dD ?_
  walk_at "wp"
  refine⟨(n:Int),rfl,by omega,by omega,?_⟩;refine cV ji (by omega) (fun _ _=>trivial) (fun i v _=>aK v=true) (fun _ _ _ _ _ h=>h) (fun τ=>∃t,τ=[t,some (.int d)]) ⟨none,rfl⟩ ?_ ?_
  ·rintro i x τ H3 R hi ⟨t,rfl⟩ s3 rfl k
   walk_at "wp"
   have hi60:(i:Int)<60:=by omega
   exact⟨wL (by decide) (by decide),AH (by omega) (by omega),by decide,⟨by decide,by decide⟩,by decide,k _ _ _ ⟨_,rfl⟩ (aN.refl _) (mod2 _)⟩
  ·intro vs H2 l hvl hF s2 hl2
   exact fin vs H2 l (by omega) hF s2 hl2
noncomputable def jx(x:Int):Nat:=97+(x%26).toNat
noncomputable def base(c:Int):List Nat:=(aU (c%7).toNat).map fun j:Nat=>jx (c/7%1000003/((j:Int)+1)+(j:Int))
noncomputable def cutAt(c:Int):Nat:=(c/77%((base c).length+1:Nat)).toNat
noncomputable def signs(c k:Int):List Nat:=(base c).take (cutAt c)++[jx (c/13+7*k)]++(base c).drop (cutAt c)++[jx (k/26+c/17)]
noncomputable def nm(c k:Int):Str:=⟨(signs c k).toArray⟩
theorem rk(x:Int):cw (jx x)=true:=by
 have h0:0<=x%26:=bu _ (by decide);have h1:x%26<26:=bZ _ (by decide);unfold cw jx;exact decide_eq_true (by omega)
theorem oV{c:Int}:(base c).length=(c%7).toNat:=by unfold base;simp
theorem pU(c k:Int):(signs c k).length=(c%7).toNat+2:=by
 unfold signs;simp only[aD,bt,di,aY,List.length_nil];have :=oV (c:=c);omega
theorem hZ(c:Int):(base c).all cw=true:=by
 unfold base;rw[m4,aM];exact fun j _=>rk _
theorem nm_ok(c k:Int):bL (nm c k)=true:=by
 have h1:c%7<7:=bZ _ (by decide);have h0:0<=c%7:=bu _ (by decide);have hl:(nm c k).length=(c%7).toNat+2:=by
  show(signs c k).toArray.size=_;rw[ax,pU]
 unfold bL;rw[hl,ae];refine⟨decide_eq_true (by omega),?_⟩;show(signs c k).toArray.toList.all cw=true;rw[A2];unfold signs;have hb:=hZ c;rw[aM]at hb;simp only[List.all_append,ae,iF,List.all_nil,rk,and_true];exact⟨aM.mpr fun y hy=>hb y (dO hy),aM.mpr fun y hy=>hb y (yx hy)⟩
theorem n6{x y:Int}(h:jx x=jx y):x%26=y%26:=by
 have h0:0<=x%26:=bu _ (by decide);have h1:0<=y%26:=bu _ (by decide);unfold jx at h;have e:=Nat.add_left_cancel h;rw[<-Int.toNat_of_nonneg h0,<-Int.toNat_of_nonneg h1,e]
theorem nm_inj{c:Int}{i j:Nat}(hi:i<52)(hj:j<52)(h:nm c i=nm c j):i=j:=by
 have e:signs c i=signs c j:=by
  have :=congrArg (fun z:Str=>z.cps.toList) h
  simpa[nm]using this
 unfold signs at e;have e1:=List.append_inj_left' e (by simp);have e2:=List.append_inj_right' e (by simp);have e3:=List.append_cancel_right e1;have e4:=List.append_cancel_left e3;injection e2 with e2 _
 injection e4 with e4 _;have a:=n6 e2;have b:=n6 e4;generalize c/17=x at a;generalize c/13=y at b;have a':(i:Int)/26=(j:Int)/26:=by
  have h1:(i:Int)/26=0\/(i:Int)/26=1:=by omega
  have h2:(j:Int)/26=0\/(j:Int)/26=1:=by omega
  rcases h1 with h1|h1<;>rcases h2 with h2|h2<;>rw[h1,h2]at a<;>omega
 have b':(7*((i:Int)-j))%26=0:=by
  have :7*((i:Int)-j)=(y+7*i)-(y+7*j):=by omega
  rw[this,Int.sub_emod,b,Int.sub_self];rfl
 have b2:((i:Int)-j)%26=0:=by omega
 omega
noncomputable abbrev mkS(l:List Nat):Str:=⟨l.toArray⟩
theorem nV(a b:List Nat):mkS a++mkS b=mkS (a++b):=by
 show(⟨a.toArray++b.toArray⟩:Str)=⟨(a++b).toArray⟩;rw[List.append_toArray]
theorem cU(a:List Nat):(mkS a).length=a.length:=by show a.toArray.size=_;simp
theorem oG(l:List Nat)(k:Nat):fH (mkS l) none (some (k:Int))=mkS (l.take k):=by
 unfold fH;rw[HT.ko,HT.km,cU];show mkS _=_;congr 1;show((l.toArray.toList.drop 0).take (min k l.length-0))=l.take k;rw[sk,yp];show l.take (min k l.length)=l.take k;by_cases h:k<=l.length
 ·rw[r9 h]
 ·rw[pL (by omega),fM,cE (by omega)]
theorem oH(l:List Nat)(k:Nat):fH (mkS l) (some (k:Int)) none=mkS (l.drop k):=by
 unfold fH;rw[HT.ko,HT.km,cU];show mkS _=_;congr 1;show((l.toArray.toList.drop (min k l.length)).take (l.length-min k l.length))=l.drop k;show(l.drop (min k l.length)).take (l.length-min k l.length)=l.drop k;rw[cE (by rw[di];omega)];by_cases h:k<=l.length
 ·rw[r9 h]
 ·rw[pL (by omega),List.drop_length,List.drop_of_length_le (by omega)]
theorem vk:∀j:Fin 26,LETTERS.cps.toList[j.val]? =some (97+j.val):=by decide+kernel
theorem ia(x:Int):atI LETTERS.cps.toList (x%26)=some (jx x):=by
 have h0:0<=x%26:=bu _ (by decide);have h1:x%26<26:=bZ _ (by decide);obtain⟨j,hj⟩:=jf h0;rw[hj];refine ib ?_;have :=vk ⟨j,by omega⟩;rw[this];unfold jx;rw[hj];rfl
theorem fP:LETTERS.length<=sizeLine:=by decide+kernel
theorem short{n:Nat}(h:n<=40):n<=sizeLine:=au h (by decide)
theorem mk1(x:Nat):(⟨#[x]⟩:Str)=mkS [x]:=rfl
theorem pM{G:Gam}{K:aa}{E:XS}{H:Hp}{Q:VK}{D:Ends}{c:Int}{k:Nat}(hr:D.rt=Q)(q:∀H',aN H H'->Q (.str (nm c k)) H'):wpB G K E dF D [some (.int c),some (.int k),some (.str LETTERS),none,none,none,none] H:=by
 unfold dF eI;walk_at "wp";refine rD ?_;walk_at "wp";have h0:0<=c%7:=bu _ (by decide);have h1:c%7<7:=bZ _ (by decide);refine⟨by decide,c%7,rfl,by omega,by omega,?_⟩;refine rC ji (fun i σ H'=>aN H H'/\∃(a b d:Option V),σ=[some (.int c),some (.int k),some (.str LETTERS),some (.str (mkS ((base c).take i))),a,b,d]) ⟨aN.refl H,none,none,none,rfl⟩ (fun _ _ _ _ _=>trivial) ?_ ?_
 ·rintro i x σ H1 H2 hi ⟨s1,a,b,d,rfl⟩ rfl s2
  walk_at "wp"
  have hb:=oV (c:=c);have hi':i<(base c).length:=by omega
  have ei:(base c)[i]? =some (jx (c/7%1000003/((i:Int)+1)+(i:Int))):=by
   unfold base;rw[bw,List.getElem?_range (by omega)];rfl
  simp only[Int.zero_add];refine⟨⟨by decide,by decide⟩,by decide,⟨by omega,by omega⟩,by decide,_,fP,ia _,?_,s1.trans s2,some (.int i),b,d,?_⟩
  ·rw[mk1,cU,cU,bt]
   exact short (by simp;omega)
  ·rw[mk1,nV,mZ,ei]
   rfl
 ·rintro σ H1 ⟨s1,a,b,d,rfl⟩
  unfold fU fT fS;walk_at "wp";have hb:=oV (c:=c);have eb:(base c).take (c%7).toNat=base c:=cE (by omega);have ea:c/77%(((mkS (base c)).length:Int)+1)=(cutAt c:Int):=by
   have h2:0<=c/77%(((base c).length:Int)+1):=bu _ (by omega);have h3:(((base c).length+1:Nat):Int)=((base c).length:Int)+1:=by omega
   unfold cutAt;rw[cU,h3];omega
  rw[eb,ea,oG,oH];have hl1:(mkS (base c)).length<=sizeLine:=by rw[cU];exact short (by omega)
  refine⟨⟨by decide,by decide⟩,hl1,by omega,⟨by decide,by decide⟩,wL (by decide) (by decide),by decide,_,fP,ia _,hl1,?_⟩;have ht:((base c).take (cutAt c)).length<=6:=by rw[bt];omega
  have hd:((base c).drop (cutAt c)).length<=6:=by rw[di];omega
  rw[mk1,nV,nV,cU,cU,cU,cU,cU];have h1a:∀x:Nat,[x].length=1:=fun _=>rfl;refine⟨short (by rw[h1a];omega),short (by omega),short (by rw[aD,h1a];omega),⟨by decide,by decide⟩,⟨by decide,by decide⟩,by decide,_,fP,ia _,?_,?_⟩
  ·rw[mk1,cU,cU,aD,aD,h1a,h1a]
   exact short (by omega)
  ·rw[mk1,nV,hr]
   exact q H1 s1
mutual
theorem tQ:∀d:D,eqD d d=true
 |.non=>rfl
 |.bl b=>by cases b<;>rfl
 |.int i=>by show(i==i)=true;simp
 |.str x=>by show(x==x)=true;simp
 |.tup ds=>lK ds
 |.lst ds=>lK ds
theorem lK:∀ds:List D,iI ds ds=true
 | []=>rfl
 |d::ds=>by show(eqD d d&&iI ds ds)=true;rw[tQ d,lK ds];rfl
end
end Lt
namespace K02
open PySem PySem.Spec PyProof.Rows L2 R Cp Lt Lm
theorem kn1_ref{H:Hp}{p:Addr}(h:Known H (.ref p)):Kn1 H (.ref p):=⟨h,fun z e=>nomatch e⟩
theorem wt{H:Hp}{p:Addr}{xs:List V}(h:H p=some (.lst xs))(hl:xs.length<=20000)(hy:∀y∈xs,Kn3 H y):Kn4 H (.ref p):=⟨kn1_ref (rq h),fun a ys e g=>by
 injection e with e;subst e;rw[h]at g;cases g;exact⟨hl,hy⟩⟩
end K02
namespace K02
open PySem R
noncomputable def sU:List Str:=["_law_found"]
noncomputable def tw:List Str:=["_law_found"]
end K02
namespace K02
open PySem PySem.Spec PyProof.Rows L2 R Cp Lt Lm
noncomputable def Sh(H:Hp)(ws:List V)(L:List (Str×List V)):Prop:=Paired (fun w l=>∃b r,w=V.ref b/\H b=some (.tup [.str l.1,.ref r])/\H r=some (.tup l.2)/\∀y∈l.2,aK y=true) ws L
theorem Sh.same{H H':Hp}{ws:List V}{L:List (Str×List V)}(h:Sh H ws L)(s:aN H H'):Sh H' ws L:=Paired.mapP h fun w l ⟨b,r,e1,e2,e3,e4⟩=>⟨b,r,e1,s _ _ e2,s _ _ e3,e4⟩
noncomputable def rdD:V->D
 |.int i=>.int i
 |_=>.non
noncomputable def toD(l:Str×List V):D:=.tup [.str l.1,.tup (l.2.map rdD)]
theorem sO{K:aa}{H:Hp}:∀{rs:List V},(∀y∈rs,aK y=true)->gx K H (rs.map rdD) rs
 | [],_=>rfl
 |y::rs,h=>by
  refine⟨y,rs,rfl,?_,sO fun z hz=>h z (.tail _ hz)⟩;rcases dn (h y (.head _))with rfl|rfl<;>rfl
theorem tN:∀{rs:List V},(∀y∈rs,aK y=true)->gf (rs.map rdD)=0
 | [],_=>rfl
 |y::rs,h=>by
  have e:=tN (rs:=rs) fun z hz=>h z (.tail _ hz);rcases dn (h y (.head _))with rfl|rfl<;>(show max 0 (gf (rs.map rdD))=0;rw[e];rfl)
theorem mS{K:aa}{H:Hp}:∀{ws:List V}{L:List (Str×List V)},Sh H ws L->gx K H (L.map toD) ws
 |_,_,.nil=>rfl
 |_,_,.cons ⟨b,r,e1,e2,e3,e4⟩ t=>⟨_,_,rfl,⟨b,_,e1,SqT.of e2,_,_,rfl,rfl,_,_,rfl,⟨r,_,rfl,SqT.of e3,sO e4⟩,rfl⟩,mS t⟩
theorem rA{H:Hp}:∀{ws:List V}{L:List (Str×List V)},Sh H ws L->gf (L.map toD)<=2
 |_,_,.nil=>by decide
 |_,_,.cons ⟨b,r,e1,e2,e3,e4⟩ t=>by
  have :=rA t
  show max (max 0 (max (gf (_:List D)+1) 0)+1) (gf _)<=2;rw[tN e4];omega
theorem An{K:aa}{H:Hp}{l:Addr}{xs:List V}{Q:VK}(h:H l=some (.lst xs))(q:Q (.bl true) H):rBf K .isinstance [.ref l,.ty (Ty.t .list)] H Q:=by
 refine isi (rq h) .list ?_;have e:cM (tyName H (.ref l)) (Ty.t .list)=true:=by show cM (dB (H l)) "list"=true;rw[h];rfl
 rw[e];exact q
end K02
namespace K11
open PySem R
noncomputable def vc:List Str:=["_law_cell","_law_k"]
noncomputable def nQ:List Str:=["_law_cell","_law_k","_law_letters","_law_base","_law_j","_law_at","_law_near"]
noncomputable def rM:CB:=
  (.cons (.ret (.bin .Add (.bin .Add (.bin .Add (.cut (.var 3) .no (.yes (.var 5))) (.var 6)) (.cut (.var 3) (.yes (.var 5)) .no)) (.idx (.var 2) (.bin .Mod (.bin .Add (.bin .FloorDiv (.var 1) (.con (.int 26))) (.bin .FloorDiv (.var 0) (.con (.int 17)))) (.con (.int 26))))))
  .nil)
noncomputable def fS:CB:=
  (.cons (.asg (.name 6) (.idx (.var 2) (.bin .Mod (.bin .Add (.bin .FloorDiv (.var 0) (.con (.int 13))) (.bin .Mult (.con (.int 7)) (.var 1))) (.con (.int 26)))))
  rM)
noncomputable def fT:CB:=
  (.cons (.asg (.name 5) (.bin .Mod (.bin .FloorDiv (.var 0) (.con (.int 77))) (.bin .Add (.bfn .len (.cons (.var 3) .nil)) (.con (.int 1)))))
  fS)
noncomputable def fU:CB:=
  (.cons (.forr (.name 4) (.range1 (.bin .Mod (.var 0) (.con (.int 7))))
  (.cons (.asg (.name 3) (.bin .Add (.var 3) (.idx (.var 2) (.bin .Mod (.bin .Add (.bin .FloorDiv (.bin .Mod (.bin .FloorDiv (.var 0) (.con (.int 7))) (.con (.int 1000003))) (.bin .Add (.var 4) (.con (.int 1)))) (.var 4)) (.con (.int 26))))))
  .nil))
  fT)
noncomputable def eI:CB:=
  (.cons (.asg (.name 3) (.con (.str "")))
  fU)
noncomputable def dF:CB:=
  (.cons (.iff (.and (.cmp .Eq (.bin .Mod (.var 0) (.con (.int 8))) (.con (.int 5))) (.cmp .Lt (.var 1) (.con (.int 26))))
  (.cons (.ret (.idx (.var 2) (.bin .Mod (.bin .Add (.bin .FloorDiv (.var 0) (.con (.int 8))) (.bin .Mult (.con (.int 7)) (.var 1))) (.con (.int 26)))))
  .nil)
  .nil)
  eI)
noncomputable def oP:CB:=
  (.cons (.asg (.name 2) (.con (.str "abcdefghijklmnopqrstuvwxyz")))
  dF)
end K11
namespace K11
open PySem PySem.Spec PyProof.Rows L2 R Cp Lt Lm K02
noncomputable def code(v:V):Nat:=if v=.int 0 then 48 else 49
noncomputable def sgn(v:V):Str:=mkS [code v]
noncomputable def rdT(rs:List V):Str:=if rs=[]then "-" else mkS (rs.map code)
noncomputable def bq(l:Str×List V):Str:=l.1++" "++rdT l.2
noncomputable def txtOf(L:List (Str×List V)):Str:=dW "\n" (L.map bq)
theorem tO:∀(rs:List V)(acc:List Nat),(rs.map sgn).foldl HAppend.hAppend (mkS acc)=mkS (acc++rs.map code)
 | [],acc=>by simp
 |v::rs,acc=>by
  rw[bo,cA];unfold sgn;rw[nV];show(rs.map sgn).foldl HAppend.hAppend (mkS (acc++[code v]))=_;rw[tO rs,bo,cz];rfl
theorem Al(rs:List V):dW "" (rs.map sgn)=mkS (rs.map code):=by
 show Builtin.Str.glued _ _=_;rw[cJ,show(aI "":Str)=⟨#[]⟩from by decide+kernel,<-fold_cat_join_nil];exact tO rs []
theorem vV(rs:List V)(h:rs.length<=60):(rdT rs).length<=60:=by
 unfold rdT;split
 ·decide+kernel
 ·rw[cU,av];exact h
theorem lj:(aI " ":Str).length=1:=by decide+kernel
theorem zw{l:Str×List V}(h1:l.1.length<=8)(h2:l.2.length<=60):(bq l).length<=69:=by
 unfold bq;have :=vV l.2 h2;rw[cg,cg,lj];omega
theorem ones(rs:List V):((rs.map sgn).map (·.length)).sum=rs.length:=by
 induction rs with
 |nil=>rfl
 |cons v rs ih=>
  rw[bo,bo,lR,ih,aY];show(mkS [code v]).length+_=_;rw[cU];simp[Nat.add_comm]
theorem lit01(v:V)(h:aK v=true):∃i:Int,v=.int i/\atI (k7 "01").toList i=some (code v):=by
 rcases dn h with rfl|rfl
 ·exact⟨0,rfl,by decide+kernel⟩
 ·exact⟨1,rfl,by decide+kernel⟩
theorem vF{H:Hp}:∀{ws:List V}{L:List (Str×List V)}{i:Nat}{w:V},Sh H ws L->ws[i]? =some w->∃l,L[i]? =some l/\∃b r,w=V.ref b/\H b=some (.tup [.str l.1,.ref r])/\H r=some (.tup l.2)/\∀y∈l.2,aK y=true
 |_,_,0,w,.cons p t,e=>by
  cases e;exact⟨_,rfl,p⟩
 |_,_,i+1,w,.cons p t,e=>by
  obtain⟨l,e1,h⟩:=vF (i:=i) t (by simpa using e);exact⟨l,by simpa using e1,h⟩
noncomputable def nm1(c k:Int):Str:=if c%8=5/\k<26 then mkS [jx (c/8+7*k)]else nm c k
theorem nM(c k:Int):bL (nm1 c k)=true:=by
 unfold nm1;split
 ·unfold bL
  have h:(mkS [jx (c/8+7*k)]).cps.toList.all cw=true:=by
   show[jx (c/8+7*k)].all cw=true;rw[iF,rk];rfl
  rw[cU,h];rfl
 ·exact nm_ok c k
theorem z6(c k:Int):(nm c k).length=(c%7).toNat+2:=by
 have :=pU c k
 show(signs c k).toArray.size=_;simpa using this
theorem wq{c:Int}{i j:Nat}(hi:i<52)(hj:j<52)(h:nm1 c i=nm1 c j):i=j:=by
 unfold nm1 at h;have h1:∀x,(mkS [x]).length=1:=fun x=>by rw[cU];rfl
 split at h<;>split at h
 ·rename_i p q
  have e:[jx (c/8+7*(i:Int))]=[jx (c/8+7*(j:Int))]:=by
   have :=congrArg (fun z:Str=>z.cps.toList) h
   simpa using this
  injection e with e;have :=n6 e;omega
 ·have :=congrArg bX h
  rw[h1,z6]at this;omega
 ·have :=congrArg bX h
  rw[h1,z6]at this;omega
 ·exact nm_inj hi hj h
noncomputable def mP:Sp:=fun vs H Q _=>∃(c:Int)(k:Nat),vs=[.int c,.int k]/\k<=100/\∀H',aN H H'->Q (.str (nm1 c k)) H'
theorem yC{G:Gam}{K:aa}:Sat G K mP oP nQ:=by
 rintro vs H Q E ⟨c,k,rfl,hk,q⟩;unfold oP dF;change wpB G K _ _ _ [some (.int c),some (.int k),none,none,none,none,none] H;walk_at "wp";have e3:eI=Lt.dF:=rfl;unfold nm1 at q;refine⟨by decide,?_⟩;by_cases h5:c%8=5
 ·rw[if_pos (decide_eq_true h5)]
  by_cases h26:(k:Int)<26
  ·rw[if_pos ⟨h5,h26⟩]at q
   rw[if_pos (decide_eq_true h26)];exact⟨⟨by decide,by decide⟩,wL (by decide) (by decide),by decide,_,fP,ia _,q H (aN.refl _)⟩
  ·rw[if_neg (fun z=>h26 z.2)]at q
   rw[if_neg (by simpa using h26),e3];exact pM rfl q
 ·rw[if_neg (fun z=>h5 z.1)]at q
  rw[if_neg (by simpa using h5),e3];exact pM rfl q
end K11
namespace K12
open PySem PySem.Spec PyProof.Rows L2 R Cp Lt Lm K02 K11
theorem bP(x y:Str):(x++y).cps.toList=x.cps.toList++y.cps.toList:=by
 show(x.cps++y.cps).toList=_;simp
theorem AE{c:Nat}{x y:List Nat}:∀{p q:List Nat},c∉p->c∉q->p++c::x=q++c::y->p=q/\x=y
 | [],[],_,_,h=>by simpa using h
 | [],b::q,_,hq,h=>by
  have e:=(jO h).1;exact absurd (by rw[e];exact aq) hq
 |a::p,[],hp,_,h=>by
  have e:=(jO h).1;exact absurd (by rw[e];exact aq) hp
 |a::p,b::q,hp,hq,h=>by
  obtain⟨e1,e2⟩:=jO h;obtain⟨e3,e4⟩:=AE (fun z=>hp (aw _ z)) (fun z=>hq (aw _ z)) e2;exact⟨by rw[e1,e3],e4⟩
theorem wy(c:Nat)(x y:Str)(r:List Str):(dk ⟨#[c]⟩ (x::y::r)).cps.toList=x.cps.toList++c::(dk ⟨#[c]⟩ (y::r)).cps.toList:=by
 show(x++⟨#[c]⟩++dk ⟨#[c]⟩ (y::r)).cps.toList=_;rw[bP,bP];simp
theorem fE{x y:Str}(h:x.cps.toList=y.cps.toList):x=y:=by
 cases x;cases y;exact congrArg Str.mk (Array.toList_inj.mp h)
theorem tI{c:Nat}:∀{ps qs:List Str},ps≠[]->qs≠[]->(∀p∈ps,c∉p.cps.toList)->(∀p∈qs,c∉p.cps.toList)->dk ⟨#[c]⟩ ps=dk ⟨#[c]⟩ qs->ps=qs
 | [],_,h,_,_,_,_=>absurd rfl h
 |_,[],_,h,_,_,_=>absurd rfl h
 | [p],[q],_,_,_,_,h=>by
  have e:p=q:=h;rw[e]
 | [p],q::q'::r,_,_,hp,_,h=>by
  have e:p.cps.toList=(dk ⟨#[c]⟩ (q::q'::r)).cps.toList:=congrArg (fun z=>z.cps.toList) (show p=_ from h);rw[wy]at e;exact absurd (by rw[e];simp) (hp p aq)
 |p::p'::r,[q],_,_,_,hq,h=>by
  have e:(dk ⟨#[c]⟩ (p::p'::r)).cps.toList=q.cps.toList:=congrArg (fun z=>z.cps.toList) (show _=q from h);rw[wy]at e;exact absurd (by rw[<-e];simp) (hq q aq)
 |p::p'::r,q::q'::r',_,_,hp,hq,h=>by
  have e:=congrArg (fun z=>z.cps.toList) h;simp only[wy]at e;obtain⟨e1,e2⟩:=AE (hp p aq) (hq q aq) e;have e3:=tI (ps:=p'::r) (qs:=q'::r') (by simp) (by simp) (fun z hz=>hp z (aw _ hz)) (fun z hz=>hq z (aw _ hz)) (fE e2);rw[fE e1,e3]
theorem jR{c:Nat}{ps:List Str}(h:ps≠[])(hp:∀p∈ps,c∉p.cps.toList):Txt.split (dW ⟨#[c]⟩ ps) ⟨#[c]⟩=ps:=by
 have e:dW ⟨#[c]⟩ ps=dk ⟨#[c]⟩ ps:=cJ _ _;rw[e];refine tI (fun z=>?_) h (StrLaws.split_free _ c) hp (yn _ _);have :=split_pos (dk ⟨#[c]⟩ ps) ⟨#[c]⟩;rw[z]at this;exact absurd this (by decide)
theorem nc:(aI " ":Str)=⟨#[32]⟩:=by decide+kernel
theorem jY(v:V):K11.code v=48\/K11.code v=49:=by
 unfold K11.code;split
 ·exact .inl rfl
 ·exact .inr rfl
theorem ny{c:Nat}(h1:c≠48)(h2:c≠49)(h3:c≠45)(rs:List V):c∉(rdT rs).cps.toList:=by
 unfold rdT;split
 ·rw[show(k7 (aI "-")).toList=[45]from by decide+kernel]
  simpa using h3
 ·intro h
  have h':c∈rs.map K11.code:=by simpa using h
  obtain⟨v,_,e⟩:=bA.mp h';rcases jY v with z|z
  ·exact h1 (e.symm.trans z)
  ·exact h2 (e.symm.trans z)
theorem lD{c:Nat}{z:Str}(h:bL z=true)(hc:cw c=false):c∉z.cps.toList:=by
 unfold bL at h;rw[ae]at h;intro q;have :=aM.mp h.2 c q;rw[hc]at this;cases this
theorem jj{l:Str×List V}(h:bL l.1=true):Txt.split (bq l) " "=[l.1,rdT l.2]:=by
 have e:bq l=dW ⟨#[32]⟩ [l.1,rdT l.2]:=by
  rw[show dW ⟨#[32]⟩ [l.1,rdT l.2]=dk ⟨#[32]⟩ [l.1,rdT l.2]from cJ _ _];show l.1++(aI " ":Str)++rdT l.2=l.1++⟨#[32]⟩++rdT l.2;rw[nc]
 rw[e,show((" ":String):Str)=⟨#[32]⟩from nc];refine jR (by simp) fun p hp=>?_;rcases aA.mp hp with rfl|hp
 ·exact lD h (by decide)
 ·rcases aA.mp hp with rfl|hp
  ·exact ny (by decide) (by decide) (by decide) _
  ·cases hp
end K12
namespace K91
open PySem PySem.Spec PyProof.Rows L2 R Cp Lt Lm K02 K11 K12
noncomputable def fig(c:Nat):Bool:=c==48||c==49
noncomputable def mH(c:Nat):V:=if c=48 then .int 0 else .int 1
noncomputable def rr(z:Str):Option (List V):=
 if z="-" then some []else if z.length=0 then none else if z.cps.toList.all fig=true then(if z.length<=60 then some (z.cps.toList.map mH)else none)else none
noncomputable abbrev J(ws:List Str):Str:=dk ⟨#[32]⟩ ws
noncomputable def yj(w:Str):Prop:=32∉w.cps.toList
theorem split_J{ws:List Str}(h:ws≠[])(hf:∀w∈ws,yj w):Txt.split (J ws) " "=ws:=by
 rw[show((" ":String):Str)=⟨#[32]⟩from nc,<-show dW ⟨#[32]⟩ ws=J ws from cJ _ _];exact jR h hf
theorem d8{w x:Str}{r:List Str}:(J (w::x::r)).cps.toList=w.cps.toList++32::(J (x::r)).cps.toList:=wy 32 w x r
theorem AS(x:Str):∀{a:List Str}{l:Str},J (a++[l])++x=J (a++[l++x])
 | [],l=>rfl
 | [b],l=>fE (by rw[bP];show(J [b,l]).cps.toList++_=(J [b,l++x]).cps.toList;rw[d8,d8];show(b.cps.toList++32::l.cps.toList)++x.cps.toList=b.cps.toList++32::(l++x).cps.toList;rw[bP];simp)
 |b::c::a,l=>fE (by
   have ih:=congrArg (fun z=>z.cps.toList) (AS x (a:=c::a) (l:=l));simp only[bP]at ih;rw[bP];show(J (b::c::(a++[l]))).cps.toList++_=(J (b::c::(a++[l++x]))).cps.toList;rw[d8,d8,cz,pf];exact congrArg (fun z=>b.cps.toList++32::z) ih)
theorem oY(x:Str):∀{a:List Str},a≠[]->J a++" "++x=J (a++[x])
 | [],h=>absurd rfl h
 | [b],_=>by rw[show((" ":String):Str)=⟨#[32]⟩from nc];rfl
 |b::c::a,_=>fE (by
   have ih:=congrArg (fun z=>z.cps.toList) (oY x (a:=c::a) (by simp));simp only[bP]at ih;rw[bP,bP];show(J (b::c::a)).cps.toList++_++_=(J (b::c::(a++[x]))).cps.toList;rw[d8,d8,cz,cz,pf,<-cz];exact congrArg (fun z=>b.cps.toList++32::z) ih)
theorem J_ahead{a:List Str}(h:a≠[]):(" ":Str)++J a=J ((⟨#[]⟩:Str)::a):=by
 cases a with
 |nil=>exact absurd rfl h
 |cons b a=>exact fE (by rw[bP,d8,show(k7 ((" ":String):Str)).toList=[32]from by decide+kernel];rfl)
theorem J_len:∀ws:List Str,(J ws).length<=(ws.map (·.length)).sum+ws.length
 | []=>bf _
 | [w]=>by show w.length<=_;simp
 |w::x::r=>by
  have ih:=J_len (x::r);rw[R.str_len,d8,aD,aY,<-R.str_len,<-R.str_len,bo,lR,aY];omega
theorem mU(x y:Str):(x++y).length=x.length+y.length:=R.cg x y
theorem Aw{x y:Str}(h1:yj x)(h2:yj y):yj (x++y):=by
 unfold yj;rw[bP];intro h;rcases bJ.mp h with h|h
 ·exact h1 h
 ·exact h2 h
end K91
namespace K12
open PySem R
noncomputable def eV:List Str:=["self","words","row"]
noncomputable def eW:List Str:=["self","words","row"]
noncomputable def fg:CB:=
  (.cons (.expr (.base "KinError" (.cons (.var 0) (.cons (.var 1) .nil))))
  (.cons (.fldX (.var 0) "row" (.var 2))
  .nil))
noncomputable def mE:List Str:=["word"]
noncomputable def iq:List Str:=["word","readings"]
noncomputable def gF:CB:=
  (.cons (.ret (.ite (.call "are_readings" (.cons (.var 1) .nil)) (.var 1) (.con .none)))
  .nil)
noncomputable def gG:CB:=
  (.cons (.asg (.name 1) (.bfn .tuple (.cons (.comp ["sign"] [] (.name 0) (.seq (.var 0)) .no (.idxG (.glo "FIGURES") (.var 0))) .nil)))
  gF)
noncomputable def gH:CB:=
  (.cons (.iff (.or (.cmp .Eq (.bfn .len (.cons (.var 0) .nil)) (.con (.int 0))) (.not (.bfn .all (.cons (.comp ["sign"] [] (.name 0) (.seq (.var 0)) .no (.inG (.var 0) (.glo "FIGURES"))) .nil))))
  (.cons (.ret (.con .none))
  .nil)
  .nil)
  gG)
noncomputable def iu:CB:=
  (.cons (.iff (.cmp .Eq (.var 0) (.con (.str "-")))
  (.cons (.ret (.tup .nil))
  .nil)
  .nil)
  gH)
noncomputable def u9:List Str:=["row"]
noncomputable def nN:List Str:=["row","words","readings"]
noncomputable def j7:CB:=
  (.cons (.iff (.not (.bfn .isinstance (.cons (.var 0) (.cons (.ty .str) .nil))))
  (.cons (.ret (.con .none))
  .nil)
  .nil)
  (.cons (.asg (.name 1) (.split (.var 0) (.con (.str " "))))
  (.cons (.iff (.or (.cmp .NotEq (.bfn .len (.cons (.var 1) .nil)) (.con (.int 2))) (.not (.call "is_name" (.cons (.idx (.var 1) (.con (.int 0))) .nil))))
  (.cons (.ret (.con .none))
  .nil)
  .nil)
  (.cons (.asg (.name 2) (.call "read_readings" (.cons (.idx (.var 1) (.con (.int 1))) .nil)))
  (.cons (.ret (.ite (.cmp .Is (.var 2) (.con .none)) (.con .none) (.tup (.cons (.idx (.var 1) (.con (.int 0))) (.cons (.var 2) .nil)))))
  .nil)))))
noncomputable def xE:List Str:=["text"]
noncomputable def p9:List Str:=["text"]
noncomputable def ql:CB:=
  (.cons (.ret (.ite (.cmp .Eq (.var 0) (.con (.str ""))) (.lst .nil) (.split (.var 0) (.con (.str "\n")))))
  .nil)
noncomputable def p_read:List Str:=["text"]
noncomputable def z7:List Str:=["text","table","place","row","copy"]
noncomputable def tV:CB:=
  (.cons (.ret (.var 1))
  .nil)
noncomputable def oM:CB:=
  (.cons (.expr (.meth1 .append (.var 1) (.var 4)))
  .nil)
noncomputable def j8:CB:=
  (.cons (.iff (.or (.cmp .Is (.var 4) (.con .none)) (.not (.call "is_table" (.cons (.bin .Add (.var 1) (.lst (.cons (.var 4) .nil))) .nil))))
  (.cons (.raisX "NoText" (.cons (.fstr "the rows up to row " " write no table" (.var 2)) (.cons (.var 2) .nil)))
  .nil)
  .nil)
  oM)
noncomputable def tW:CB:=
  (.cons (.forr (.tup (.cons (.name 2) (.cons (.name 3) .nil))) (.enum (.call "rows_of" (.cons (.var 0) .nil)))
  (.cons (.asg (.name 4) (.call "read_row" (.cons (.var 3) .nil)))
  j8))
  tV)
noncomputable def tX:CB:=
  (.cons (.asg (.name 1) (.lst .nil))
  tW)
noncomputable def vB:CB:=
  (.cons (.iff (.not (.bfn .isinstance (.cons (.var 0) (.cons (.ty .str) .nil))))
  (.cons (.raisX "NoText" (.cons (.con (.str "this is no text")) (.cons (.con (.int 0)) .nil)))
  .nil)
  .nil)
  tX)
end K12
namespace K12
open PySem PySem.Spec PyProof.Rows L2 R Cp Lt Lm K02 K11
theorem vO{H:Hp}{w:V}{l:Str×List V}(h:∃b r,w=V.ref b/\H b=some (.tup [.str l.1,.ref r])/\H r=some (.tup l.2)/\∀y∈l.2,aK y=true)(hn:bL l.1=true)(hl:l.2.length<=60):
  cK H w=true/\bF H w=l.1/\b8 H w=l.2.length/\Kn3 H w:=by
 obtain⟨b,r,rfl,h1,h2,h4⟩:=h;have ar:bU H (.ref r)=true:=by
  show(match cH (H r)with |some xs=>decide (xs.length<=60)&&xs.all aK|none=>false)=true;rw[h2];show(decide (l.2.length<=60)&&l.2.all aK)=true;rw[decide_eq_true hl,cG,aM];exact h4
 have hz:l.1.length<=20000:=by
  have :=hn
  unfold bL at this;rw[ae,decide_eq_true_eq]at this;omega
 refine⟨?_,?_,?_,⟨rm h1,fun z e=>nomatch e⟩,fun a xs e hx=>?_⟩
 ·show(match cH (H b)with |some [n,r]=>isName n&&bU H r|_=>false)=true
  rw[h1];show(bL l.1&&bU H (.ref r))=true;rw[hn,ar];rfl
 ·show(match cH (H b)with |some (.str z::_)=>z|_=>("":Str))=_
  rw[h1];rfl
 ·show(match cH (H b)with |some [_,.ref b]=>(cH (H b)).elim 0 ik|_=>0)=l.2.length
  rw[h1];show(cH (H r)).elim 0 ik=l.2.length;rw[h2];rfl
 ·injection e with e
  subst e;rw[h1]at hx;cases hx;refine⟨by show 2<=20000;decide,fun y hy=>?_⟩;simp only[aA,bh,or_false]at hy;rcases hy with rfl|rfl
  ·exact⟨⟨rn,fun z e=>by injection e with e;rw[<-e];exact hz⟩,fun a xs e=>nomatch e⟩
  ·refine⟨⟨rm h2,fun z e=>nomatch e⟩,fun a xs e hx=>?_⟩
   injection e with e;subst e;rw[h2]at hx;cases hx;refine⟨by omega,fun z hz=>?_⟩;rcases dn (h4 z hz)with rfl|rfl
   ·exact⟨n8,fun z e=>nomatch e⟩
   ·exact⟨n8,fun z e=>nomatch e⟩
structure Good(L:List (Str×List V)):Prop where
 len:L.length<=40
 nm:∀l∈L,bL l.1=true
 rd:∀l∈L,∀y∈l.2,aK y=true
 nd:(L.map (·.1)).Nodup
 ct:∃n≤60,∀l∈L,l.2.length=n
theorem Good.take{L:List (Str×List V)}(g:Good L)(i:Nat):Good (L.take i) where
 len:=by rw[bt];have :=g.len;omega
 nm:=fun l h=>g.nm l (dO h)
 rd:=fun l h=>g.rd l (dO h)
 nd:=by rw[iE];exact g.nd.sublist (mY _ _)
 ct:=let⟨n,hn,h⟩:=g.ct;⟨n,hn,fun l hl=>h l (dO hl)⟩
theorem sI{H:Hp}{ws:List V}{L:List (Str×List V)}(sh:Sh H ws L)(hn:∀l∈L,bL l.1=true)(hl:∀l∈L,l.2.length<=60):ws.map (bF H)=L.map (·.1)/\∀w∈ws,cK H w=true/\Kn3 H w/\∃l∈L,b8 H w=l.2.length:=by
 induction sh with
 |nil=>exact⟨rfl,fun w h=>nomatch h⟩
 | @cons w l ws L h t ih=>
  obtain⟨e,k⟩:=ih (fun l h=>hn l (aw _ h)) (fun l h=>hl l (aw _ h));obtain⟨c1,c2,c3,c4⟩:=vO h (hn l aq) (hl l aq);refine⟨by rw[bo,bo,e,c2],fun x hx=>?_⟩;rcases aA.mp hx with rfl|hx
  ·exact⟨c1,c4,l,aq,c3⟩
  ·obtain⟨a,b,l',hl',d⟩:=k x hx
   exact⟨a,b,l',aw _ hl',d⟩
theorem iS{H:Hp}{ws:List V}{L:List (Str×List V)}(sh:Sh H ws L):ws.length=L.length:=si sh
theorem y0{H:Hp}{t:Addr}{ws:List V}{L:List (Str×List V)}(ht:H t=some (.lst ws))(sh:Sh H ws L)(g:Good L):Kn4 H (.ref t)/\kD H (.ref t)=true/\∀y∈ws,cK H y=true:=by
 obtain⟨n,hn,hc⟩:=g.ct;obtain⟨e,k⟩:=sI sh g.nm fun l hl=>by rw[hc l hl];exact hn
 have hwl:ws.length<=40:=by rw[iS sh];exact g.len
 have cp:∀y∈ws,cK H y=true:=fun y hy=>(k y hy).1;have ct:∀y∈ws,b8 H y=n:=fun y hy=>let⟨_,_,l,hl,z⟩:=k y hy;z.trans (hc l hl);refine⟨wt ht (by omega) fun y hy=>(k y hy).2.1,?_,cp⟩;show(match jG (H t)with |some xs=>decide (xs.length<=40)&&(xs.all (cK H)&&(decide ((xs.map (bF H)).Nodup)&&decide (∀y∈xs,∀z∈xs,b8 H y=b8 H z))) |none=>false)=true;rw[ht];show(decide (ws.length<=40)&&(ws.all (cK H)&&(decide ((ws.map (bF H)).Nodup)&&decide (∀y∈ws,∀z∈ws,b8 H y=b8 H z))))=true;rw[decide_eq_true hwl,cG,ae,ae,aM,decide_eq_true_eq,decide_eq_true_eq];exact⟨cp,by rw[e];exact g.nd,fun y hy z hz=>by rw[ct y hy,ct z hz]⟩
structure Nt(K:aa)(B C:Addr):Prop where
 bs:BsX K B
 st:StX K C "row"
 ex:∃f,jW K C f bmV "ValueError.__new__"=true
noncomputable def hJ(C:Addr):Sp:=fun vs H Q _=>∃a z v,vs=[.ref a,.str z,v]/\H a=some (exO a C none)/\∀dd,H dd=none->Q .non (upd (upd H dd (xdO dd [("row",v)])) a (exO a C (some dd)))
theorem vL{G:Gam}{K:aa}{B C:Addr}(v1:G.val "KinError"=some (.ref B))(n:Nt K B C):
  Sat G K (hJ C) fg eW:=by
 rintro vs H Q E ⟨a,z,v,rfl,ha,q⟩;unfold fg;change wpB G K _ _ _ [some (.ref a),some (.str z),some v] H;walk_at "wp";obtain⟨f,hf⟩:=n.ex;refine⟨B,v1,n.bs,?_⟩;refine⟨_,rfl,_,rfl,a,C,f,[.str z],rfl,ha,zV,hf,?_⟩;refine⟨_,rfl,_,rfl,a,C,rfl,n.st,.inl ⟨ha,fun dd hd=>q dd hd⟩⟩
noncomputable def mG:List (Key×V):=[(.inr "0",.int 0),(.inr "1",.int 1)]
theorem zZ{rs:List V}(h:rs≠[]):mkS (rs.map K11.code)≠"-":=fun z=>by
 cases rs with
 |nil=>exact h rfl
 |cons v r=>
  have e:=congrArg (fun x=>x.cps.toList) z;rw[show(aI "-").cps.toList=[45]from by decide+kernel]at e;have e':K11.code v::r.map K11.code=[45]:=by simpa using e
  have :=(jO e').1
  rcases jY v with q|q<;>omega
theorem str_str:cM "str" "str"=true:=by decide
noncomputable def uS:Sp:=fun vs H Q _=>∃(z:Str)(ps:List Str),vs=[.str z]/\z.length<=20000/\(z=""/\ps=[]\/z≠""/\Txt.split z "\n"=ps)/\∀H' t,aN H H'->H t=none->H' t=some (.lst (ps.map V.str))->Q (.ref t) H'
theorem uE{G:Gam}{K:aa}:
  Sat G K uS ql p9:=by
 rintro vs H Q E ⟨z,ps,rfl,hz,hp,q⟩;unfold ql;change wpB G K _ _ _ [some (.str z)] H;walk_at "wp";rcases hp with⟨rfl,rfl⟩ |⟨hz0,rfl⟩
 ·rw[if_pos (by decide)]
  exact⟨bf _,fun t ht=>q _ t (az ht) ht ak⟩
 ·rw[if_neg (by rw[decide_eq_true_eq];exact hz0)]
  exact⟨rfl,z,"\n",rfl,rfl,by decide+kernel,au (cX hz 2) (by decide),fun t ht=>q _ t (az ht) ht ak⟩
end K12
namespace K91
open PySem PySem.Spec PyProof.Rows L2 R Cp Lt Lm K02 K11 K12
theorem Az(v:V):fig (K11.code v)=true:=by rcases jY v with h|h<;>rw[h]<;>rfl
theorem xZ{v:V}(h:aK v=true):mH (K11.code v)=v:=by rcases dn h with rfl|rfl<;>rfl
theorem sP{rs:List V}(h:rs≠[]):(rdT rs).cps.toList=rs.map K11.code:=by unfold rdT;rw[if_neg h]
theorem rr_rdT{rs:List V}(hr:∀y∈rs,aK y=true)(hl:rs.length<=60):rr (rdT rs)=some rs:=by
 by_cases h0:rs=[]
 ·subst h0
  unfold rr rdT;rw[if_pos rfl,if_pos rfl]
 ·have e:rdT rs=mkS (rs.map K11.code):=by unfold rdT;rw[if_neg h0]
  have el:=sP h0;have len:(rdT rs).length=rs.length:=by rw[R.str_len,el,av]
  have hn:¬rs.length=0:=fun z=>h0 (cy.mp z);unfold rr;rw[if_neg (by rw[e];exact zZ h0),if_neg (by omega),if_pos (by rw[el,m4,aM];exact fun v _=>Az v),if_pos (by omega),el,dY];congr 1
  conv =>rhs;rw[<-List.map_id rs]
  exact A3 fun v hv=>xZ (hr v hv)
theorem qO(rs:List V):1<=(rdT rs).length/\(rdT rs).length<=rs.length+1:=by
 by_cases h0:rs=[]
 ·subst h0;exact⟨by decide+kernel,by decide+kernel⟩
 ·have len:(rdT rs).length=rs.length:=by rw[R.str_len,sP h0,av]
  have hn:¬rs.length=0:=fun z=>h0 (cy.mp z);omega
theorem zv{z x:Str}(h1:1<=z.length){c:Nat}(hc:c∈x.cps.toList)(hf:fig c=false):rr (z++x)=none:=by
 have hx:1<=x.length:=by rw[R.str_len];exact List.length_pos_of_mem hc
 unfold rr;rw[if_neg,if_neg (by rw[mU];omega),if_neg]
 ·rw[bP,List.all_append,ae,not_and]
  intro _ h;have :=aM.mp h c hc;rw[hf]at this;cases this
 ·intro h
  have :=congrArg bX h
  rw[mU,show bX (aI "-")=1 from by decide+kernel]at this;omega
theorem fo{n:Str}(h:bL n=true):n.length<=8:=by
 unfold bL at h;rw[ae,decide_eq_true_eq]at h;exact h.1.2
section
variable {ws:List Str}{ds:List Th}
theorem xc:∀k:Fin 26,upS ⟨#[97+k.val]⟩=⟨#[65+k.val]⟩:=by decide+kernel
theorem sA{c:Nat}(h:cw c=true):upS ⟨#[c]⟩=⟨#[c-32]⟩/\cw (c-32)=false/\c-32≠32:=by
 unfold cw at h;rw[decide_eq_true_eq]at h;have e:c=97+(c-97):=by omega
 have :=xc ⟨c-97,by omega⟩
 refine⟨?_,?_,by omega⟩
 ·rw[show 97+(⟨c-97,by omega⟩:Fin 26).val=c from by show 97+(c-97)=c;omega]at this
  rw[this];show(⟨#[65+(c-97)]⟩:Str)=_;rw[show 65+(c-97)=c-32 from by omega]
 ·unfold cw
  exact decide_eq_false (by omega)
end
theorem wH(c:Nat):iQ mG (.inr ⟨#[c]⟩)=if c=48 then some (.int 0)else if c=49 then some (.int 1)else none:=by
 have e0:((.inr "0":Key)=.inr ⟨#[c]⟩)↔c=48:=⟨fun h=>by
  have :=congrArg (fun z:Str=>z.cps.toList) (vJ h)
  rw[show(k7 (("0":String):Str)).toList=[48]from by decide+kernel]at this;have h':[48]=[c]:=this;simpa using h'.symm,fun h=>by subst h;exact congrArg cF (by decide+kernel)⟩
 have e1:((.inr "1":Key)=.inr ⟨#[c]⟩)↔c=49:=⟨fun h=>by
  have :=congrArg (fun z:Str=>z.cps.toList) (vJ h)
  rw[show(k7 (("1":String):Str)).toList=[49]from by decide+kernel]at this;have h':[49]=[c]:=this;simpa using h'.symm,fun h=>by subst h;exact congrArg cF (by decide+kernel)⟩
 unfold iQ mG;by_cases h0:c=48
 ·rw[if_pos h0,w6 (by rw[decide_eq_true_eq];exact e0.mpr h0)];rfl
 ·rw[if_neg h0,w8 (by rw[decide_eq_true_eq];exact fun z=>h0 (e0.mp z))]
  by_cases h1:c=49
  ·rw[if_pos h1,w6 (by rw[decide_eq_true_eq];exact e1.mpr h1)];rfl
  ·rw[if_neg h1,w8 (by rw[decide_eq_true_eq];exact fun z=>h1 (e1.mp z))];rfl
theorem Ay(c:Nat):(iQ mG (.inr ⟨#[c]⟩)).isSome=fig c:=by
 rw[wH];unfold fig;by_cases h0:c=48
 ·rw[if_pos h0,h0];rfl
 ·rw[if_neg h0]
  by_cases h1:c=49
  ·rw[if_pos h1,h1];rfl
  ·rw[if_neg h1];simp[h0,h1]
theorem fig_is{c:Nat}(h:fig c=true):iQ mG (.inr ⟨#[c]⟩)=some (mH c):=by
 rw[wH];unfold fig at h;unfold mH;by_cases h0:c=48
 ·rw[if_pos h0,if_pos h0]
 ·rw[if_neg h0,if_neg h0]
  have h1:c=49:=by simpa[h0]using h
  rw[if_pos h1]
theorem figV_rd(c:Nat):aK (mH c)=true:=by unfold mH;split <;>rfl
noncomputable def spRR:Sp:=fun vs H Q _=>∃z,vs=[.str z]/\z.length<=20000/\(∀rs,rr z=some rs->∀H' r,aN H H'->H' r=some (.tup rs)->Q (.ref r) H')/\(rr z=none->∀H',aN H H'->Q .non H')
theorem qI{z:Str}{i c:Nat}(h:z.cps[i]? =some c):z.cps.toList[i]? =some c:=by simpa using h
theorem J_mem{w:Str}:∀{ws:List Str},w∈ws->w.length<=(J ws).length
 | [x],h=>by rw[bc.mp h];exact ao _
 |x::y::r,h=>by
  rw[R.str_len (J (x::y::r)),d8,aD,aY,<-R.str_len,<-R.str_len];rcases aA.mp h with rfl|h
  ·omega
  ·have :=J_mem h
   omega
theorem xm{z:Str}{w:Str}(h:w∈Txt.split z " "):w.length<=z.length:=by
 rw[show((" ":String):Str)=⟨#[32]⟩from nc]at h;have e:J (Txt.split z ⟨#[32]⟩)=z:=yn _ _;have :=J_mem h
 rwa [e]at this
end K91
namespace K12
open PySem PySem.Spec PyProof.Rows L2 R Cp Lt Lm K02 K11
theorem Sh.set{H:Hp}{t:Addr}{xs us ws:List V}{L:List (Str×List V)}(h:Sh H ws L)(e:H t=some (.lst xs)):Sh (upd H t (.lst us)) ws L:=
 Paired.mapP h fun w l ⟨b,r,e1,e2,e3,e4⟩=>⟨b,r,e1,by rw[aL (fun z=>by rw[z,e]at e2;cases e2)];exact e2,by rw[aL (fun z=>by rw[z,e]at e3;cases e3)];exact e3,e4⟩
theorem nX{H:Hp}{a dd C:Addr}{v:V}(ha:H a=none)(hd:upd H a (exO a C none) dd=none):
  dd≠a/\del (upd (upd (upd H a (exO a C none)) dd (xdO dd [("row",v)])) a (exO a C (some dd))) a=upd H dd (xdO dd [("row",v)]):=by
 have ne:dd≠a:=fun z=>by rw[z,ak]at hd;cases hd
 refine⟨ne,?_⟩;funext b;by_cases hb:b=a
 ·subst hb
  rw[gj,aL (bO ne)];exact ha.symm
 ·rw[gk hb,aL hb]
  by_cases hc:b=dd
  ·subst hc
   rw[ak,ak]
  ·rw[aL hc,aL hb,aL hc]
noncomputable abbrev msgA:Str:="the rows up to row "
noncomputable abbrev msgB:Str:=" write no table"
theorem Ab:∀n:Fin 41,(fText msgA msgB (n.val:Int)).length<=1000/\((n.val:Int)).natAbs.log2<1920:=by decide+kernel
theorem text_ne{L:List (Str×List V)}(hn:L≠[]):txtOf L≠"":=fun z=>by
 cases L with
 |nil=>exact hn rfl
 |cons l L=>
  have h:=join_mem_le "\n" (bq l::L.map bq) (bq l) aq;have h4:txtOf (l::L)=dk "\n" (bq l::L.map bq):=cJ _ _;rw[<-h4,z]at h;have :1<=(bq l).length:=by
   unfold bq;rw[cg,cg,lj];omega
  have h0:(aI "":Str).length=0:=by decide+kernel
  rw[h0]at h;omega
end K12
namespace K13
open PySem PySem.Spec PyProof.Rows L2 R Cp Lt Lm K02 K11 K12 K91
noncomputable def wdD:List Str->Option (Str×List V)
 | [w,x]=>if bL w=true then(rr x).map fun r=>(w,r)else none
 |_=>none
noncomputable def jT(z:Str):Option (Str×List V):=wdD (Txt.split z " ")
structure fu(l:Str×List V):Prop where
 nm:bL l.1=true
 len:l.2.length<=60
 rd:∀y∈l.2,aK y=true
theorem uX(l:Str×List V):bq l=J [l.1,rdT l.2]:=oY (rdT l.2) (a:=[l.1]) (by simp)
theorem mR{l:Str×List V}(f:fu l):jT (bq l)=some l:=by
 unfold jT;rw[jj f.nm];show(if bL l.1=true then(rr (rdT l.2)).map fun r=>(l.1,r)else none)=_;rw[if_pos f.nm,rr_rdT f.rd f.len];rfl
theorem fine_of{z:Str}{l:Str×List V}(h:jT z=some l):fu l:=by
 unfold jT at h;generalize Txt.split z " "=ws at h;unfold wdD at h;split at h
 ·split at h
  ·rename_i w x hn
   obtain⟨r,hr,rfl⟩:=eT.mp h;unfold rr at hr;split at hr
   ·cases hr
    exact⟨hn,bf _,fun y hy=>nomatch hy⟩
   ·split at hr
    ·cases hr
    ·split at hr
     ·split at hr
      ·rename_i h60
       cases hr;refine⟨hn,?_,fun y hy=>?_⟩
       ·show(x.cps.toList.map mH).length<=60
        rw[av];rw[R.str_len]at h60;exact h60
       ·obtain⟨c,_,rfl⟩:=bA.mp hy
        unfold mH;split <;>rfl
      ·cases hr
     ·cases hr
  ·cases h
 ·cases h
structure Bd(z:Str):Prop where
 len:z.length<=200
 nl:10∉z.cps.toList
 no:jT z=none
noncomputable def Wd(n:Nat)(w:Str):Prop:=yj w/\10∉w.cps.toList/\w.length<=n
theorem J_no{ws:List Str}:(∀w∈ws,10∉w.cps.toList)->10∉(J ws).cps.toList:=by
 induction ws with
 |nil=>intro _ h;cases h
 |cons w r ih=>
  intro h;cases r with
  |nil=>exact h w aq
  |cons x r=>
   rw[d8];intro z;rcases bJ.mp z with z|z
   ·exact h w aq z
   ·rcases aA.mp z with z|z
    ·cases z
    ·exact ih (fun w hw=>h w (aw _ hw)) z
theorem tZ{ws:List Str}{z:Str}(hz:z=J ws)(hn:ws≠[])(h3:ws.length<=3)(hf:∀w∈ws,Wd 130 w)(hs:(ws.map (·.length)).sum<=190)(hd:wdD ws=none):Bd z:=by
 subst hz;refine⟨au (J_len ws) (by omega),J_no fun w hw=>(hf w hw).2.1,?_⟩;unfold jT;rw[split_J hn fun w hw=>(hf w hw).1];exact hd
theorem lh{x:Str}(h:((!(x.cps.toList.contains 32))&&(!(x.cps.toList.contains 10))&&decide (x.length<=65))=true):Wd 65 x:=by
 simp only[ae,m5,yz,decide_eq_false_iff_not,decide_eq_true_eq]at h;exact⟨h.1.1,h.1.2,h.2⟩
theorem uI{x y:Str}{m n:Nat}(h1:Wd m x)(h2:Wd n y):Wd (m+n) (x++y):=by
 refine⟨Aw h1.1 h2.1,?_,by rw[mU];exact Nat.add_le_add h1.2.2 h2.2.2⟩;rw[bP];intro h;rcases bJ.mp h with h|h
 ·exact h1.2.1 h
 ·exact h2.2.1 h
theorem Wd.le{x:Str}{m n:Nat}(h:Wd m x)(hl:m<=n):Wd n x:=⟨h.1,h.2.1,au h.2.2 hl⟩
theorem wd_name{n:Str}(h:bL n=true):Wd 8 n:=⟨lD h rfl,lD h rfl,fo h⟩
theorem wd_rds{rs:List V}(h:rs.length<=60):Wd 61 (rdT rs):=⟨ny (by decide) (by decide) (by decide) rs,ny (by decide) (by decide) (by decide) rs,by have :=(qO rs).2;omega⟩
noncomputable abbrev zeros:Str:="0000000000000000000000000000000000000000000000000000000000000"
noncomputable abbrev oz:Str:="0101010101010101010101010101010101010101010101010101010101011"
noncomputable def rE:List Str:=["","a","a b","a 0-","a -0","- 0","abcdefghi 0","a 0 1","0 a","a 01 "]
theorem xY:∀z∈rE,Bd z:=by
 have h:rE.all (fun z=>decide (z.length<=200)&& !(z.cps.toList.contains 10)&&(jT z).isNone)=true:=by decide+kernel
 intro z hz;have :=aM.mp h z hz;simp only[ae,m5,yz,decide_eq_false_iff_not,decide_eq_true_eq,Option.isNone_iff_eq_none]at this;exact⟨this.1.1,this.1.2,this.2⟩
theorem vR{x:Str}(h:61<=x.length):rr x=none:=by
 unfold rr;rw[if_neg (fun z=>by rw[z]at h;revert h;decide+kernel),if_neg (by omega)];split
 ·rw[if_neg (by omega)]
 ·rfl
theorem wd2{w x:Str}(h:bL w=false\/rr x=none):wdD [w,x]=none:=by
 show(if bL w=true then(rr x).map fun r=>(w,r)else none)=none;rcases h with h|h
 ·rw[if_neg (by rw[h];decide)]
 ·rw[h]
  split <;>rfl
noncomputable abbrev oA:Str:="010101010101010101010101010101010101010101010101010101010101"
noncomputable def spl(z n:Str):List Str:=[z++" "," "++z,gq z " " "  ",z++" 0",n,z++"2",z++"\t",upS (fH z none (some 1))++fH z (some 1) none,gq z " " "\t",z++zeros,"","a","a b","a 0-","a -0","- 0","abcdefghi 0","a 0 1","0 a","a 01 ",n++" "++oA++"1"]
theorem wd3{a b c:Str}:wdD [a,b,c]=none:=rfl
section
variable {l:Str×List V}
theorem fu.w1(f:fu l):Wd 8 l.1:=wd_name f.nm
theorem fu.w2(f:fu l):Wd 61 (rdT l.2):=wd_rds f.len
theorem bdA(f:fu l){x:Str}(hx:Wd 65 x):Bd (J [l.1,rdT l.2,x]):=
 tZ rfl (by simp) (by simp) (fun w hw=>by
  simp only[aA,bh,or_false]at hw;rcases hw with rfl|rfl|rfl
  ·exact f.w1.le (by decide)
  ·exact f.w2.le (by decide)
  ·exact hx.le (by decide)) (by have :=f.w1.2.2;have :=f.w2.2.2;have :=hx.2.2;simp;omega) wd3
theorem bdB(f:fu l){w x:Str}(hw:Wd 8 w)(hx:Wd 126 x)(h:bL w=false\/rr x=none):Bd (J [w,x]):=
 tZ rfl (by simp) (by simp) (fun v hv=>by
  simp only[aA,bh,or_false]at hv;rcases hv with rfl|rfl
  ·exact hw.le (by decide)
  ·exact hx.le (by decide)) (by have :=hw.2.2;have :=hx.2.2;simp;omega) (wd2 h)
theorem bdC{w:Str}(hw:Wd 130 w):Bd w:=
 tZ (ws:=[w]) rfl (by simp) (by simp) (fun v hv=>by
  simp only[aA,bh,or_false]at hv;rw[hv];exact hw) (by have :=hw.2.2;simp;omega) rfl
theorem w_lit:Wd 65 "0"/\Wd 65 "2"/\Wd 65 "\t"/\Wd 65 zeros/\Wd 65 oz/\Wd 65 (⟨#[]⟩:Str):=
 ⟨lh (by decide+kernel),lh (by decide+kernel),lh (by decide+kernel),lh (by decide+kernel),lh (by decide+kernel),lh (by decide+kernel)⟩
theorem cat_nil(x:Str):x++(⟨#[]⟩:Str)=x:=fE (by rw[bP];simp)
theorem vA(x y z:Str):x++y++z=x++(y++z):=fE (by rw[bP,bP,bP,bP,cz])
theorem J2_last(a b x:Str):J [a,b]++x=J [a,b++x]:=AS x (a:=[a]) (l:=b)
theorem spl_bad(f:fu l):∀z∈spl (bq l) l.1,Bd z:=by
 obtain⟨l0,l2,lt,lz,l6,ln⟩:=w_lit;have eR:=uX l;have sp:Txt.split (bq l) (⟨#[32]⟩:Str)=[l.1,rdT l.2]:=by rw[<-nc];exact jj f.nm
 have h1:=(qO l.2).1;intro z hz;unfold spl at hz;rw[eR]at hz sp;have tl:∀{x:Str},Wd 65 x->rr (rdT l.2++x)=none->Bd (J [l.1,rdT l.2]++x):=fun hx h=>by
  rw[J2_last];exact bdB f f.w1 (uI f.w2 hx) (.inr h)
 have rp:∀d:Str,gq (J [l.1,rdT l.2]) " " d=dk d [l.1,rdT l.2]:=fun d=>by
  rw[show((" ":String):Str)=⟨#[32]⟩from nc,StrLaws.replace_one,sp]
 simp only[aA,bh,or_false]at hz;rcases hz with rfl|rfl|rfl|rfl|rfl|rfl|rfl|rfl|rfl|rfl|hz
 ·rw[<-cat_nil (J [l.1,rdT l.2]++_),oY _ (by simp)]
  exact bdA f ln
 ·rw[J_ahead (by simp)]
  exact tZ rfl (by simp) (by simp) (fun w hw=>by
   simp only[aA,bh,or_false]at hw;rcases hw with rfl|rfl|rfl
   ·exact ln.le (by decide)
   ·exact f.w1.le (by decide)
   ·exact f.w2.le (by decide)) (by have :=f.w1.2.2;have :=f.w2.2.2;have :=ln.2.2;simp;omega) wd3
 ·rw[rp]
  have e:dk ((("  ":String)):Str) [l.1,rdT l.2]=J [l.1,(⟨#[]⟩:Str),rdT l.2]:=by
   apply fE
   rw[d8,d8];show(l.1++_++rdT l.2).cps.toList=_;rw[bP,bP,show(k7 (("  ":String):Str)).toList=[32,32]from by decide+kernel];simp;rfl
  rw[e];exact tZ rfl (by simp) (by simp) (fun w hw=>by
   simp only[aA,bh,or_false]at hw;rcases hw with rfl|rfl|rfl
   ·exact f.w1.le (by decide)
   ·exact ln.le (by decide)
   ·exact f.w2.le (by decide)) (by have :=f.w1.2.2;have :=f.w2.2.2;have :=ln.2.2;simp;omega) wd3
 ·rw[show((" 0":String):Str)=((" ":String):Str)++(("0":String):Str)from by decide+kernel,<-vA,oY _ (by simp)]
  exact bdA f l0
 ·exact bdC (f.w1.le (by decide))
 ·exact tl l2 (zv h1 (c:=50) (by decide+kernel) (by decide))
 ·exact tl lt (zv h1 (c:=9) (by decide+kernel) (by decide))
 ·obtain⟨c,r,e,hc⟩:∃c r,l.1.cps.toList=c::r/\cw c=true:=by
   have hn:=f.nm;unfold bL at hn;rw[ae,decide_eq_true_eq,aM]at hn;cases hw:l.1.cps.toList with
   |nil=>have :=hn.1.1;rw[R.str_len,hw]at this;exact absurd this (by decide)
   |cons c r=>exact⟨c,r,rfl,hn.2 c (by rw[hw];exact aq)⟩
  obtain⟨u1,u2,u3⟩:=sA hc;have ej:J [l.1,rdT l.2]=mkS (c::(r++32::(rdT l.2).cps.toList)):=fE (by rw[d8,e];rfl);have c1:fH (J [l.1,rdT l.2]) none (some 1)=⟨#[c]⟩:=by rw[ej];exact oG (c::_) 1
  have c2:fH (J [l.1,rdT l.2]) (some 1) none=mkS (r++32::(rdT l.2).cps.toList):=by rw[ej];exact oH (c::_) 1
  rw[c1,c2,u1];have ew:(⟨#[c-32]⟩:Str)++mkS (r++32::(rdT l.2).cps.toList)=J [mkS ((c-32)::r),rdT l.2]:=fE (by rw[d8,bP];simp;rfl);rw[ew];obtain⟨w1,w2,w3⟩:=f.w1;have hw:Wd 8 (mkS ((c-32)::r)):=by
   refine⟨fun q=>?_,fun q=>?_,?_⟩
   ·have q':32∈(c-32)::r:=by simpa using q
    rcases aA.mp q' with q'|q'
    ·exact u3 q'.symm
    ·exact w1 (by rw[e];exact aw _ q')
   ·have q':10∈(c-32)::r:=by simpa using q
    rcases aA.mp q' with q'|q'
    ·unfold cw at hc
     rw[decide_eq_true_eq]at hc;omega
    ·exact w2 (by rw[e];exact aw _ q')
   ·rw[R.str_len,e]at w3
    rw[cU];simpa using w3
  refine bdB f hw (f.w2.le (by decide)) (.inl ?_);unfold bL;rw[Bool.and_eq_false_iff];right;show(mkS ((c-32)::r)).cps.toList.all cw=false;simp[u2]
 ·rw[rp]
  show Bd (l.1++(("\t":String):Str)++rdT l.2);exact bdC ((uI (uI f.w1 (⟨lt.1,lt.2.1,by decide+kernel⟩:Wd 10 (aI "\t"))) f.w2).le (by decide))
 ·exact tl lz (vR (by rw[mU,show zeros.length=61 from by decide+kernel];omega))
 ·rcases or_assoc.mpr (or_assoc.mpr (or_assoc.mpr (or_assoc.mpr (or_assoc.mpr (or_assoc.mpr (or_assoc.mpr (or_assoc.mpr (or_assoc.mpr hz))))))))with hz|rfl
  ·exact xY _ (by unfold rE;simp only[aA,bh,or_false];simpa only[or_assoc]using hz)
  ·rw[vA,show oA++(("1":String):Str)=oz from by decide+kernel]
   have e:l.1++(("  ":String):Str)=l.1++(("  ":String):Str):=rfl;rw[show l.1++((" ":String):Str)++oz=J [l.1,oz]from oY oz (a:=[l.1]) (by simp)];exact bdB f f.w1 (l6.le (by decide)) (.inr (vR (by decide+kernel)))
end
theorem lg{G:Gam}{K:aa}{F:Addr}(v1:G.val "FIGURES"=some (.ref F))(d1:G.dic F=some mG)(g1:G.fn "are_readings" 1=some (spR,[])):
  Sat G K K91.spRR K12.iu K12.iq:=by
 rintro vs H Q E ⟨z,rfl,hz,q,qn⟩;unfold K12.iu;change wpB G K _ _ _ [some (.str z),none] H;walk_at "wp";have hzl:z.length<=sizeLine:=au hz nZ;by_cases h0:z="-"
 ·rw[if_pos (by rw[decide_eq_true_eq];exact h0)]
  refine⟨bf _,fun p hp=>q [] (by unfold rr;rw[if_pos h0]) _ p (az hp) ak⟩
 ·rw[if_neg (by rw[decide_eq_true_eq];exact h0)]
  unfold K12.gH;walk_at "wp";refine⟨hzl,?_⟩;by_cases hn:z.length=0
  ·rw[if_pos (by rw[decide_eq_true_eq];omega),if_pos trivial]
   exact qn (by unfold rr;rw[if_neg h0,if_pos hn]) H (aN.refl _)
  rw[if_neg (by rw[decide_eq_true_eq];omega)];refine dD (ja rfl (cV qJ hzl (fun _ _=>trivial) (fun i v _=>v=.bl (fig (z.cps.toList.getD i 0))) (fun _ _ _ _ _ h=>h) (fun τ=>∃t,τ=[t]) ⟨none,rfl⟩ ?_ ?_))
  ·rintro i x τ H3 R hi ⟨t,rfl⟩ s3 ⟨c,hc,rfl⟩ k
   refine⟨_,rfl,_,v1,F,mG,.inr ⟨#[c]⟩,rfl,d1,rfl,?_⟩;rw[Ay];exact k _ _ _ ⟨_,rfl⟩ (aN.refl _) (by rw[getD_some (qI hc)])
  ·intro vs H2 l hvl hF s2 hl2
   have e1:=bool_list hvl hF;subst e1;refine⟨l,_,rfl,SqL.of ak,_,rfl,?_⟩;have e2:((aU z.length).map fun i=>fig (z.cps.toList.getD i 0)).all id=z.cps.toList.all fig:=by
    have :=kS z.cps.toList 0 fig
    rw[show z.cps.toList.length=z.length by simp[bX]]at this;exact this
   rw[e2];have s3:aN H (upd H2 l (.lst (((aU z.length).map fun i=>fig (z.cps.toList.getD i 0)).map V.bl))):=s2.trans (az hl2);generalize upd H2 l (.lst (((aU z.length).map fun i=>fig (z.cps.toList.getD i 0)).map V.bl))=H3 at s3;cases ha:z.cps.toList.all fig with
   |false=>
    rw[if_pos (by decide)];exact qn (by unfold rr;rw[if_neg h0,if_neg hn,if_neg (by rw[ha];decide)]) H3 s3
   |true=>
    rw[if_neg (by decide)];unfold K12.gG;walk_at "wp";refine dD (ja rfl (cV qJ hzl (fun _ _=>trivial) (fun i v _=>v=mH (z.cps.toList.getD i 0)) (fun _ _ _ _ _ h=>h) (fun τ=>∃t,τ=[t]) ⟨none,rfl⟩ ?_ ?_))
    ·rintro i x τ H4 R hi ⟨t,rfl⟩ s4 ⟨c,hc,rfl⟩ k
     refine⟨_,v1,_,rfl,F,mG,.inr ⟨#[c]⟩,mH c,rfl,d1,rfl,fig_is (aM.mp ha c (a7 (qI hc))),?_⟩;exact k _ _ _ ⟨_,rfl⟩ (aN.refl _) (by rw[getD_some (qI hc)])
    ·intro ws H4 l4 hwl hF4 s4 hl4
     have ew:ws=z.cps.toList.map mH:=by
      apply fN
      ·rw[av,hwl,R.str_len]
      ·intro i h1 h2
       have :=hF4 i ws[i] (by simp[h1])
       rw[this,List.getElem_map];congr 1;rw[av]at h2;rw[a8,ah h2];rfl
     subst ew;generalize hws:z.cps.toList.map mH=ws at *;have hwz:ws.length=z.length:=hwl;have hr:∀y∈ws,aK y=true:=fun y hy=>by
      rw[<-hws]at hy;obtain⟨c,_,rfl⟩:=bA.mp hy;exact figV_rd c
     refine⟨l4,_,rfl,.inl ⟨SqL.of ak,fun p hp=>?_⟩⟩;have s5:aN H (upd (upd H4 l4 (.lst ws)) p (.tup ws)):=((s3.trans s4).trans (az hl4)).trans (az hp);have hp5:upd (upd H4 l4 (.lst ws)) p (.tup ws) p=some (.tup ws):=ak;generalize upd (upd H4 l4 (.lst ws)) p (.tup ws)=H5 at s5 hp5;unfold K12.gF;walk_at "wp";have ar:bU H5 (.ref p)=decide (ws.length<=60):=by
      show(match cH (H5 p)with |some xs=>decide (xs.length<=60)&&xs.all aK|none=>false)=_;rw[hp5];show(decide (ws.length<=60)&&ws.all aK)=_;rw[aM.mpr hr,uC]
     refine⟨_,_,g1,.ref p,rfl,rm hp5,fun a xs ea ex=>?_,fun H6 s6=>⟨_,rfl,?_⟩⟩
     ·cases ea
      rw[hp5]at ex;cases ex;refine⟨by omega,fun y hy=>?_⟩;rcases dn (hr y hy)with rfl|rfl<;>exact n8
     ·rw[ar]
      by_cases h60:ws.length<=60
      ·rw[if_pos (by rw[decide_eq_true_eq];exact h60)]
       refine q ws ?_ H6 p (s5.trans s6) (s6 _ _ hp5);unfold rr;rw[if_neg h0,if_neg hn,if_pos ha,if_pos (by omega),hws]
      ·rw[if_neg (by rw[decide_eq_true_eq];exact h60)]
       refine qn ?_ H6 (s5.trans s6);unfold rr;rw[if_neg h0,if_neg hn,if_pos ha,if_neg (by omega)]
noncomputable def ll:Sp:=fun vs H Q _=>∃x,vs=[x]/\((∃z,x=.str z/\z.length<=20000/\(jT z=none->∀H',aN H H'->Q .non H')/\∀l,jT z=some l->∀H' b r,aN H H'->H' b=some (.tup [.str l.1,.ref r])->H' r=some (.tup l.2)->Q (.ref b) H')\/
 (Known H x/\cM (tyName H x) "str"=false/\Q .non H))
theorem sv{G:Gam}{K:aa}(g1:G.fn "is_name" 1=some (spN,[]))(g2:G.fn "read_readings" 1=some (K91.spRR,[])):
  Sat G K ll K12.j7 K12.nN:=by
 rintro vs H Q E ⟨x,rfl,⟨z,rfl,hz,qn,q⟩ |⟨hk,ht,q⟩⟩
 ·unfold K12.j7
  change wpB G K _ _ _ [some (.str z),none,none] H;walk_at "wp";refine isi rn .str ⟨_,rfl,?_⟩;rw[show cM (tyName H (.str z)) (Ty.t .str)=true from str_str,if_neg (by decide)];refine⟨rfl,z," ",rfl,rfl,by decide+kernel,au (cX hz 2) (by decide),fun p hp=>?_⟩;have s1:aN H (upd H p (.lst ((Txt.split z " ").map V.str))):=az hp;have hp1:upd H p (.lst ((Txt.split z " ").map V.str)) p=some (.lst ((Txt.split z " ").map V.str)):=ak;generalize upd H p (.lst ((Txt.split z " ").map V.str))=H1 at s1 hp1;have hmem:=fun w=>xm (z:=z) (w:=w);unfold jT at qn q;generalize Txt.split z " "=ws at *;refine .inl ⟨p,_,rfl,.inl (SqL.of hp1),?_⟩;show dR K .NotEq (.int (((ws.map V.str).length:Nat):Int)) (.int 2) H1 _;rw[tu];refine⟨_,rfl,?_⟩;by_cases h2:ws.length=2
  ·obtain⟨w,x,rfl⟩:∃w x,ws=[w,x]:=by
    match ws,h2 with
    | [w,x],_=>exact⟨w,x,rfl⟩
   rw[if_neg (show ¬(!decide (((([w,x].map V.str).length:Nat):Int)=2))=true from by simp)];have hw:w.length<=20000:=au (hmem w aq) hz;have hx:x.length<=20000:=au (hmem x (aw _ aq)) hz;refine⟨_,_,g1,.inl ⟨p,_,0,.str w,rfl,rfl,SqL.of hp1,rfl,?_⟩⟩;refine⟨.str w,rfl,rn,fun z e=>by injection e with e;rw[<-e];exact hw,fun H2 s2=>⟨_,rfl,?_⟩⟩;rw[show isName (.str w)=bL w from rfl];cases hn:bL w with
   |false=>
    rw[if_pos (by decide)];exact qn (wd2 (.inl hn)) H2 (s1.trans s2)
   |true=>
    rw[if_neg (by decide)];have ed:wdD [w,x]=(rr x).map fun r=>(w,r):=by
     show(if bL w=true then(rr x).map fun r=>(w,r)else none)=_;rw[if_pos hn]
    rw[ed]at qn;rw[ed]at q;refine⟨_,_,g2,.inl ⟨p,_,1,.str x,rfl,rfl,SqL.of (s2 _ _ hp1),rfl,?_⟩⟩;refine⟨x,rfl,hx,fun rs hr H3 r s3 hr3=>?_,fun hr H3 s3=>?_⟩
    ·show if decide (V.ref r=V.non)=true then _ else _
     rw[if_neg (by simp)];refine .inl ⟨p,_,0,.str w,rfl,rfl,SqL.of (s3 _ _ (s2 _ _ hp1)),rfl,short (by show 2<=40;decide),fun b hb=>?_⟩;exact q (w,rs) (by rw[hr];rfl) _ b r (((s1.trans s2).trans s3).trans (az hb)) ak (by rw[aL (ba hr3 hb)];exact hr3)
    ·show if decide (V.non=V.non)=true then _ else _
     rw[if_pos (by simp)];exact qn (by rw[hr];rfl) H3 ((s1.trans s2).trans s3)
  ·rw[if_pos (show(!decide ((((ws.map V.str).length:Nat):Int)=2))=true from by simp;omega),if_pos trivial]
   refine qn ?_ H1 s1
   match ws,h2 with
   | [],_=>rfl
   | [a],_=>rfl
   | [a,b],h=>exact absurd rfl h
   |a::b::c::r,_=>rfl
 ·unfold K12.j7
  change wpB G K _ _ _ [some x,none,none] H;walk_at "wp";refine isi hk .str ⟨_,rfl,?_⟩;rw[show cM (tyName H x) (Ty.t .str)=false from ht,if_pos (by decide)];exact q
theorem sh_tab2{H:Hp}{t:Addr}{ws:List V}{L:List (Str×List V)}(ht:H t=some (.lst ws))(sh:Sh H ws L)(f:∀l∈L,fu l)(hl:L.length<=41):Kn4 H (.ref t)/\(kD H (.ref t)=true->Good L):=by
 obtain⟨e,k⟩:=sI sh (fun l h=>(f l h).nm) (fun l h=>(f l h).len);refine⟨wt ht (by rw[iS sh];omega) fun y hy=>(k y hy).2.1,fun h=>?_⟩;change(match jG (H t)with |some xs=>decide (xs.length<=40)&&(xs.all (cK H)&&(decide ((xs.map (bF H)).Nodup)&&decide (∀y∈xs,∀z∈xs,b8 H y=b8 H z))) |none=>false)=true at h;rw[ht]at h;change(decide (ws.length<=40)&&(ws.all (cK H)&&(decide ((ws.map (bF H)).Nodup)&&decide (∀y∈ws,∀z∈ws,b8 H y=b8 H z))))=true at h;rw[ae,ae,ae,decide_eq_true_eq,decide_eq_true_eq,decide_eq_true_eq]at h;obtain⟨h1,_,h2,h3⟩:=h;have at':∀(i:Nat)(l:Str×List V),L[i]? =some l->∃w∈ws,b8 H w=l.2.length:=fun i l hi=>by
  have hlt:i<L.length:=(aE.mp hi).1;obtain⟨l',e1,o⟩:=vF (i:=i) (w:=ws[i]'(by rw[iS sh];exact hlt)) sh (ah _);obtain rfl:l'=l:=aX (e1.symm.trans hi);have hm:=a7 hi;exact⟨_,dj _,(vO o (f _ hm).nm (f _ hm).len).2.2.1⟩
 refine⟨by rw[<-iS sh];exact h1,fun l h=>(f l h).nm,fun l h=>(f l h).rd,by rw[<-e];exact h2,?_⟩;cases hL:L with
 |nil=>exact⟨0,by decide,fun l h=>nomatch h⟩
 |cons l0 L0=>
  refine⟨l0.2.length,(f l0 (by rw[hL];exact aq)).len,fun l hl=>?_⟩;rw[<-hL]at hl;obtain⟨i,hi⟩:=List.getElem?_of_mem hl;obtain⟨w,hw,ew⟩:=at' i l hi;obtain⟨w0,hw0,ew0⟩:=at' 0 l0 (by rw[hL];rfl);rw[<-ew,<-ew0];exact h3 w hw w0 hw0
noncomputable def jb(z:Str)(ps:List Str):Prop:=z.length<=20000/\(z=""/\ps=[]\/z≠""/\Txt.split z "\n"=ps)/\∀y∈ps,y.length<=200
noncomputable def pG(ps:List Str)(L:List (Str×List V)):Prop:=∀(i:Nat)(l:Str×List V),L[i]? =some l->∃y,ps[i]? =some y/\jT y=some l
noncomputable def Halt(ps:List Str)(L:List (Str×List V)):Prop:=∃y,ps[L.length]? =some y/\(jT y=none\/∃l,jT y=some l/\¬Good (L++[l]))
noncomputable def AQ(H:Hp)(E:XK)(C:Addr)(n:Nat):Prop:=∀H' dd,aN H H'->H' dd=some (xdO dd [("row",.int n)])->E (.ref C) (some dd) H'
noncomputable def mO(C:Addr):Sp:=fun vs H Q E=>∃x,vs=[x]/\((Known H x/\cM (tyName H x) "str"=false/\AQ H E C 0)\/
 ∃z ps L,x=.str z/\jb z ps/\Good L/\pG ps L/\
  ((ps.length=L.length/\∀H' t ys,aN H H'->H t=none->H' t=some (.lst ys)->Sh H' ys L->Q (.ref t) H')\/(Halt ps L/\AQ H E C L.length)))
theorem wp_read{G:Gam}{K:aa}{C:Addr}(gI:G.ini "NoText" 2=some (C,hJ C,[]))(g1:G.fn "rows_of" 1=some (uS,[]))(g2:G.fn "read_row" 1=some (ll,[]))(g3:G.fn "is_table" 1=some (Cp.spT,[])):
  Sat G K (mO C) K12.vB K12.z7:=by
 rintro vs H Q E ⟨x,rfl,⟨hk,hty,q⟩ |⟨z,ps,L,rfl,⟨hz,hp,hpl⟩,g,hsay,q⟩⟩
 ·unfold K12.vB
  change wpB G K _ _ _ [some x,none,none,none,none] H;walk_at "wp";refine isi hk .str ⟨_,rfl,?_⟩;rw[show cM (tyName H x) (Ty.t .str)=false from hty,if_pos (by decide)];refine⟨C,_,_,gI,short (by show 2<=40;decide),fun a ha=>?_⟩;refine⟨a,_,_,rfl,ak,fun dd hd=>?_⟩;obtain⟨ne,e⟩:=nX (v:=.int 0) ha hd;refine⟨rfl,some dd,ak,?_⟩;rw[e];have hd5:H dd=none:=by rw[aL ne]at hd;exact hd
  exact q _ dd (az hd5) ak
 unfold K12.vB;change wpB G K _ _ _ [some (.str z),none,none,none,none] H;walk_at "wp";refine isi rn .str ⟨_,rfl,?_⟩;rw[show cM (tyName H (.str z)) (Ty.t .str)=true from str_str,if_neg (by decide)];unfold K12.tX;walk_at "wp";refine⟨bf _,fun t ht=>?_⟩;have s1:aN H (upd H t (.lst [])):=az ht;have ht1:upd H t (.lst []) t=some (.lst []):=ak;generalize upd H t (.lst [])=H1 at s1 ht1;unfold K12.tW;walk_at "wp";refine rD ?_;walk_at "wp";refine⟨_,_,g1,z,ps,rfl,hz,hp,fun H2 l s2 hl0 hl=>⟨l,rfl,⟨_,SqL.of hl⟩,?_⟩⟩;have tl:t≠l:=fun e=>by rw[<-e,ht1]at hl0;cases hl0
 refine rC (sJ (xs:=ps.map V.str)) (fun i σ H'=>aN H H'/\H' l=some (.lst (ps.map V.str))/\i<=L.length/\∃ys,H' t=some (.lst ys)/\Sh H' ys (L.take i)/\∃u v w,σ=[some (.str z),some (.ref t),u,v,w])
  ⟨s1.trans s2,hl,bf _,[],s2 _ _ ht1,.nil,none,none,none,rfl⟩ (fun i σ H' _ p=>SqL.of p.2.1) ?_ ?_
 ·rintro i x σ H3 H4 hi ⟨s3,hl3,hiL,ys,ht3,sh,u,v,w,rfl⟩ ⟨p,row,rfl,hp4,hrow⟩ s4
  obtain⟨y,hy,rfl⟩:∃y,ps[i]? =some y/\row=.str y:=by
   rw[bw]at hrow;obtain⟨y,e1,e2⟩:=eT.mp hrow;exact⟨y,e1,e2.symm⟩
  have hyl:y.length<=20000:=au (hpl y (a7 hy)) (by decide);refine⟨p,_,rfl,SqT.of hp4,rfl,_,_,rfl,_,_,rfl,rfl,?_⟩;walk_at "wp";have ht4:=s4 _ _ ht3;refine⟨_,_,g2,.str y,rfl,.inl ⟨y,rfl,hyl,fun hd H5 s5=>?_,fun l' hd H5 b r s5 hb hr=>?_⟩⟩
  ·unfold K12.j8
   walk_at "wp"
   rw[if_pos (by simp),if_pos trivial];by_cases hlt:i<L.length
   ·obtain⟨y',e1,e2⟩:=hsay i L[i] (ah hlt)
    rw[hy]at e1;cases e1;rw[hd]at e2;cases e2
   ·have ei:i=L.length:=by omega
    subst ei;rcases q with⟨e,_⟩ |⟨_,q⟩
    ·rw[av]at hi
     omega
    ·refine⟨C,_,_,gI,?_⟩
     obtain⟨m1,m2⟩:=Ab ⟨L.length,by have :=g.len;omega⟩;refine⟨by decide+kernel,_,rfl,_,rfl,m2,au m1 (by decide),?_⟩;refine⟨_,rfl,short (by show 2<=40;decide),fun a ha=>?_⟩;refine⟨a,_,_,rfl,ak,fun dd hd=>?_⟩;obtain⟨ne,e⟩:=nX (v:=.int L.length) ha hd;refine⟨rfl,some dd,ak,?_⟩;rw[e];rw[aL ne]at hd;exact q _ dd (((s3.trans s4).trans s5).trans (az hd)) ak
  ·unfold K12.j8
   walk_at "wp"
   rw[if_neg (by simp)];have ht5:=s5 _ _ ht4;have fl':=fine_of hd;have hys:ys.length<=40:=by
    rw[iS sh,bt];have :=g.len;omega
   refine⟨_,_,g3,short (by show 1<=40;decide),fun m hm5=>.inr (.inr (.inl ⟨t,m,ys,[.ref b],rfl,rfl,(az hm5) _ _ ht5,ak,?_,fun n' hn'=>?_⟩))⟩
   ·exact au (cX hys 1) (by decide)
   have s6:aN H5 (upd (upd H5 m (.lst [.ref b])) n' (.lst (ys++[.ref b]))):=(az hm5).trans (az hn');have hn6:upd (upd H5 m (.lst [.ref b])) n' (.lst (ys++[.ref b])) n'=some (.lst (ys++[.ref b])):=ak;generalize upd (upd H5 m (.lst [.ref b])) n' (.lst (ys++[.ref b]))=H6 at s6 hn6;have sh6:Sh H6 (ys++[.ref b]) (L.take i++[l']):=wY (sh.same ((s4.trans s5).trans s6)) ⟨b,r,rfl,s6 _ _ hb,s6 _ _ hr,fl'.rd⟩;have gt:=g.take i;obtain⟨n0,hn0,hct⟩:=gt.ct;obtain⟨k1,k2⟩:=sh_tab2 hn6 sh6 (fun l'' h=>by
    rcases bJ.mp h with h|h
    ·exact⟨gt.nm _ h,by rw[hct _ h];exact hn0,gt.rd _ h⟩
    ·rw[bc.mp h];exact fl') (by rw[aD,bt];have :=g.len;simp;omega)
   refine⟨.ref n',rfl,k1,fun H7 s7=>⟨_,rfl,?_⟩⟩;have ht7:=s7 _ _ (s6 _ _ ht5);have sH7:aN H H7:=((s3.trans (s4.trans s5)).trans s6).trans s7;by_cases hlt:i<L.length
   ·have hm:L[i]∈L:=dj hlt
    obtain⟨y',e1,e2⟩:=hsay i L[i] (ah hlt);rw[hy]at e1;cases e1;rw[hd]at e2;cases e2;have et:L.take i++[L[i]]=L.take (i+1):=by rw[mZ,ah hlt];rfl
    rw[et]at sh6;rw[(y0 hn6 sh6 (g.take (i+1))).2.1,if_neg (by decide)];unfold K12.oM;walk_at "wp";refine⟨.inl ⟨rfl,_,SqL.of ht7⟩,t,ys,.ref b,rfl,rfl,ht7,?_,?_⟩
    ·exact gZ hys (by decide)
    ·refine⟨gS sH7 ht,?_,hlt,_,ak,K12.Sh.set (sh6.same s7) ht7,_,_,_,rfl⟩
     rw[aL (bO tl)];exact s7 _ _ (s6 _ _ (s5 _ _ (s4 _ _ hl3)))
   ·have ei:i=L.length:=by omega
    subst ei;rcases q with⟨e,_⟩ |⟨⟨y',e1,h⟩,q⟩
    ·rw[av]at hi
     omega
    rw[hy]at e1;cases e1;have hng:¬Good (L++[l']):=by
     rcases h with h|⟨l2,h,hg⟩
     ·rw[hd]at h
      cases h
     ·rw[hd]at h
      cases h;exact hg
    rw[fM]at k2;have hf:kD H6 (.ref n')=false:=by
     cases e:kD H6 (.ref n')with
     |false=>rfl
     |true=>exact absurd (k2 e) hng
    rw[hf,if_pos (by decide)];refine⟨C,_,_,gI,?_⟩;obtain⟨m1,m2⟩:=Ab ⟨L.length,by have :=g.len;omega⟩;refine⟨by decide+kernel,_,rfl,_,rfl,m2,au m1 (by decide),?_⟩;refine⟨_,rfl,short (by show 2<=40;decide),fun a ha=>?_⟩;refine⟨a,_,_,rfl,ak,fun dd hd=>?_⟩;obtain⟨ne,e⟩:=nX (v:=.int L.length) ha hd;refine⟨rfl,some dd,ak,?_⟩;rw[e];rw[aL ne]at hd;exact q _ dd ((sH7).trans (az hd)) ak
 ·rintro σ H3 ⟨s3,hl3,hiL,ys,ht3,sh,u,v,w,rfl⟩
  unfold K12.tV;walk_at "wp";rw[av]at hiL sh;rcases q with⟨e,q⟩ |⟨⟨y,e1,_⟩,_⟩
  ·refine q H3 t ys s3 ht ht3 ?_
   rw[cE (by omega)]at sh;exact sh
  ·have :=(aE.mp e1).1
   omega
end K13
namespace Kc
open PySem PySem.Spec PyProof.Rows L2 R Cp Lt
theorem wF{J:It}{n:Nat}{it:Nat->V->Hp->Prop}{Hc:Hp->Prop}{g:TG}{tb:TS}{D:Ends}{σ:L2.St}{H:Hp}(S:ud J n it Hc)(Pv:Nat->L2.St->Hp->Prop)(h0:Pv 0 σ H)(hl:∀i σ H,i<=n->Pv i σ H->Hc H)
  (hs:∀i x σ H H' (D2:Ends),i<n->Pv i σ H->it i x H'->aN H H'->(∀σ2 H2,Pv (i+1) σ2 H2->D2.nx σ2 H2)->D2.rt=D.rt->g x σ H' fun σ2 H2=>tb D2 σ2 H2)(hd:∀σ H,Pv n σ H->D.nx σ H):ForB J g tb D σ H:=
 rC S Pv h0 hl (fun i x σ H H' a b c d=>hs i x σ H H' _ a b c d (fun _ _ h=>h) rfl) hd
theorem d5{us:List Value}(h:us.length=1):∃a,us=[a]:=by
 cases us with
 |nil=>exact nomatch h
 |cons a r=>exact⟨a,by rw[cy.mp (k9 h)]⟩
theorem hG{us:List Value}(h:us.length=2):∃a b,us=[a,b]:=by
 cases us with
 |nil=>exact nomatch h
 |cons a r=>
  obtain⟨b,e⟩:=d5 (k9 h);exact⟨a,b,by rw[e]⟩
theorem yO{us:List Value}(h:us.length=3):∃a b c,us=[a,b,c]:=by
 cases us with
 |nil=>exact nomatch h
 |cons a r=>
  obtain⟨b,c,e⟩:=hG (k9 h);exact⟨a,b,c,by rw[e]⟩
theorem cN{α:Type}{F:α->Prop}{vs:List V}{n:Nat}(h:∃a,F a)(k:∀a,F a->vs.length=n):vs.length=n:=let⟨a,f⟩:=h;k a f
theorem fQ{P:Prop}{l vs:List V}{n:Nat}(h:vs=l/\P)(e:l.length=n):vs.length=n:=by rw[h.1];exact e
end Kc
namespace K13
open PySem R
noncomputable def xF:List Str:=["_law_copy"]
noncomputable def qa:List Str:=["_law_copy","_law_word"]
noncomputable def i7:CB:=
  (.cons (.ret (.bin .Add (.bin .Add (.idx (.var 0) (.con (.int 0))) (.con (.str " "))) (.var 1)))
  .nil)
noncomputable def mn:CB:=
  (.cons (.iff (.cmp .Eq (.var 1) (.con (.str "")))
  (.cons (.asg (.name 1) (.con (.str "-")))
  .nil)
  .nil)
  i7)
noncomputable def qm:CB:=
  (.cons (.asg (.name 1) (.join "" (.comp ["_law_one"] [] (.name 0) (.seq (.idx (.var 0) (.con (.int 1)))) .no (.idx (.con (.str "01")) (.var 0)))))
  mn)
noncomputable def qW:List Str:=["_law_text_here","_law_way"]
noncomputable def kz:List Str:=["_law_text_here","_law_way","_law_some"]
noncomputable def eF:CB:=
  (.cons (.ret (.idx (.var 2) (.bin .Mod (.var 1) (.con (.int 21)))))
  .nil)
noncomputable def eG:CB:=
  (.cons (.asg (.name 2) (.bin .Add (.var 2) (.lst (.cons (.con (.str "a -0")) (.cons (.con (.str "- 0")) (.cons (.con (.str "abcdefghi 0")) (.cons (.con (.str "a 0 1")) (.cons (.con (.str "0 a")) (.cons (.con (.str "a 01 ")) (.cons (.bin .Add (.bin .Add (.bin .Add (.idx (.split (.var 0) (.con (.str " "))) (.con (.int 0))) (.con (.str " "))) (.bin .Mult (.con (.str "01")) (.con (.int 30)))) (.con (.str "1"))) .nil))))))))))
  eF)
noncomputable def gp:CB:=
  (.cons (.asg (.name 2) (.bin .Add (.var 2) (.lstR (.upper (.cut (.var 0) .no (.yes (.con (.int 1))))) (.cut (.var 0) (.yes (.con (.int 1))) .no) 0 " " "\t" (.cons (.bin .Add (.var 0) (.bin .Mult (.con (.str "0")) (.con (.int 61)))) (.cons (.con (.str "")) (.cons (.con (.str "a")) (.cons (.con (.str "a b")) (.cons (.con (.str "a 0-")) .nil))))))))
  eG)
noncomputable def hX:CB:=
  (.cons (.asg (.name 2) (.lstR1 (.bin .Add (.var 0) (.con (.str " "))) (.con (.str " ")) (.var 0) 0 " " "  " (.cons (.bin .Add (.var 0) (.con (.str " 0"))) (.cons (.idx (.split (.var 0) (.con (.str " "))) (.con (.int 0))) (.cons (.bin .Add (.var 0) (.con (.str "2"))) (.cons (.bin .Add (.var 0) (.con (.str "\t"))) .nil))))))
  gp)
noncomputable def va:List Str:=["_law_script"]
noncomputable def nO:List Str:=["_law_script","_law_seed","_law_many","_law_rows","_law_copies","_law_spoilt_here","_law_first","_law_k","_law_cell","_law_drawn","_law_copy","_law_text_here","_law_good","_law_other","_law_less","_law_bad"]
noncomputable def kJ:CB:=
  (.cons (.ret (.tup (.cons (.var 3) (.cons (.var 6) (.cons (.var 4) (.cons (.var 5) .nil))))))
  .nil)
noncomputable def eY:CB:=
  (.cons (.expr (.meth1 .append (.var 3) (.var 11)))
  .nil)
noncomputable def eE:CB:=
  (.cons (.iff (.or (.var 12) (.cmp .Eq (.bin .Mod (.call "_law_cell_at" (.cons (.var 0) (.cons (.con (.int 1)) .nil))) (.con (.int 2))) (.con (.int 1))))
  (.cons (.iff (.and (.not (.var 12)) (.cmp .Lt (.var 6) (.con (.int 0))))
  (.cons (.asg (.name 6) (.bfn .len (.cons (.var 3) .nil)))
  .nil)
  .nil)
  eY)
  .nil)
  .nil)
noncomputable def bQ:CB:=
  (.cons (.iff (.var 12)
  (.cons (.expr (.meth1 .append (.var 4) (.var 10)))
  .nil)
  .nil)
  eE)
noncomputable def gV:CB:=
  (.cons (.asg (.name 12) (.con (.bool false)))
  .nil)
noncomputable def dE:CB:=
  (.cons (.asg (.name 11) (.call "_law_row" (.cons (.var 15) .nil)))
  gV)
noncomputable def eZ:CB:=
  (.cons (.asg (.name 15) (.idx (.lst (.cons (.tup (.cons (.var 13) (.cons (.idx (.var 10) (.con (.int 1))) .nil))) (.cons (.tup (.cons (.idx (.var 10) (.con (.int 0))) (.cons (.bin .Add (.idx (.var 10) (.con (.int 1))) (.tup (.cons (.con (.int 0)) .nil))) .nil))) (.cons (.tup (.cons (.idx (.var 10) (.con (.int 0))) (.cons (.var 14) .nil))) .nil)))) (.bin .Mod (.bin .FloorDiv (.var 9) (.con (.int 2))) (.con (.int 3)))))
  dE)
noncomputable def ff:CB:=
  (.cons (.asg (.name 14) (.idx (.tup (.cons (.bin .Add (.idx (.var 10) (.con (.int 1))) (.tup (.cons (.con (.int 0)) .nil))) (.cons (.cut (.idx (.var 10) (.con (.int 1))) .no (.yes (.un .USub (.con (.int 1))))) .nil))) (.bfn .int (.cons (.cmp .Gt (.var 2) (.con (.int 0))) .nil))))
  eZ)
noncomputable def gm:CB:=
  (.cons (.asg (.name 12) (.con (.bool false)))
  .nil)
noncomputable def d7:CB:=
  (.cons (.expr (.meth1 .append (.var 5) (.var 11)))
  gm)
noncomputable def gn:CB:=
  (.cons (.iff (.and (.cmp .Eq (.bin .Mod (.bin .FloorDiv (.var 9) (.con (.int 17))) (.con (.int 12))) (.con (.int 5))) (.cmp .NotEq (.var 4) (.lst .nil)))
  (.cons (.asg (.name 13) (.idx (.idx (.var 4) (.bin .Mod (.bin .FloorDiv (.var 9) (.con (.int 204))) (.bfn .len (.cons (.var 4) .nil)))) (.con (.int 0))))
  ff)
  (.cons (.iff (.cmp .Eq (.bin .Mod (.bin .FloorDiv (.var 9) (.con (.int 17))) (.con (.int 12))) (.con (.int 7)))
  (.cons (.asg (.name 11) (.call "_law_spoilt" (.cons (.var 11) (.cons (.bin .FloorDiv (.var 9) (.con (.int 204))) .nil))))
  d7)
  .nil)
  .nil))
  bQ)
noncomputable def i4:CB:=
  (.cons (.asg (.name 12) (.cmp .Lt (.bfn .len (.cons (.var 4) .nil)) (.con (.int 40))))
  gn)
noncomputable def i5:CB:=
  (.cons (.asg (.name 11) (.call "_law_row" (.cons (.var 10) .nil)))
  i4)
noncomputable def i6:CB:=
  (.cons (.asg (.name 10) (.tup (.cons (.call "_law_name" (.cons (.var 1) (.cons (.var 7) .nil))) (.cons (.call "_law_readings" (.cons (.var 9) (.cons (.var 2) .nil))) .nil))))
  i5)
noncomputable def kK:CB:=
  (.cons (.forr (.tup (.cons (.name 7) (.cons (.name 8) .nil))) (.enum (.cut (.var 0) (.yes (.con (.int 2))) (.yes (.con (.int 54)))))
  (.cons (.asg (.name 9) (.call "_law_mixed" (.cons (.var 8) (.cons (.var 7) .nil))))
  i6))
  kJ)
noncomputable def kL:CB:=
  (.cons (.asg (.name 6) (.un .USub (.con (.int 1))))
  kK)
noncomputable def kM:CB:=
  (.cons (.asg (.name 5) (.lst .nil))
  kL)
noncomputable def kN:CB:=
  (.cons (.asg (.name 4) (.lst .nil))
  kM)
noncomputable def kO:CB:=
  (.cons (.asg (.name 3) (.lst .nil))
  kN)
noncomputable def kP:CB:=
  (.cons (.asg (.name 2) (.idx (.lst (.cons (.bin .Mod (.bin .FloorDiv (.var 1) (.con (.int 3))) (.con (.int 60))) (.cons (.con (.int 3)) (.cons (.con (.int 8)) .nil)))) (.bin .Mod (.var 1) (.con (.int 3)))))
  kO)
noncomputable def oN:CB:=
  (.cons (.asg (.name 1) (.bin .Mod (.call "_law_cell_at" (.cons (.var 0) (.cons (.con (.int 0)) .nil))) (.bin .Pow (.con (.int 10)) (.con (.int 30)))))
  kP)
end K13
namespace K13
open PySem PySem.Spec PyProof.Rows L2 R Cp Lt Lm K02 K11 K12 K91
theorem sl{n:Nat}(h:n<=20000):n<=sizeLine:=au h nZ
noncomputable def uR:Sp:=fun vs H Q _=>∃b r,∃l:Str×List V,vs=[.ref b]/\H b=some (.tup [.str l.1,.ref r])/\H r=some (.tup l.2)/\l.1.length<=8/\l.2.length<=60/\(∀y∈l.2,aK y=true)/\∀H',aN H H'->Q (.str (bq l)) H'
theorem vK{G:Gam}{K:aa}{E:XS}{D:Ends}{H:Hp}{b r:Addr}{l:Str×List V}(hb:H b=some (.tup [.str l.1,.ref r]))(hn:l.1.length<=8)(hl:l.2.length<=60)(q:D.rt (.str (bq l)) H):
  wpB G K E i7 D [some (.ref b),some (.str (rdT l.2))] H:=by
 unfold i7;walk_at "wp";have h2:=vV l.2 hl;refine .inr (.inl ⟨b,_,0,.str l.1,rfl,rfl,SqT.of hb,rfl,?_⟩);refine j9.mpr ⟨?_,?_⟩
 ·rw[lj]
  exact au (cX hn 1) (by decide)
 ·refine j9.mpr ⟨?_,q⟩
  rw[cg,lj];exact au (by omega:_<=100) (by decide)
theorem wp_rw{G:Gam}{K:aa}:Sat G K uR qm qa:=by
 rintro vs H Q E ⟨b,r,l,rfl,hb,hr,hn,hl,hrd,q⟩;unfold qm;change wpB G K _ _ _ [some (.ref b),none] H;walk_at "wp";refine⟨rfl,dD ⟨_,rfl,.inr (.inl ⟨b,_,1,.ref r,rfl,rfl,SqT.of hb,rfl,?_⟩)⟩⟩;refine .inr (.inl ⟨r,rfl,⟨_,SqT.of hr⟩,?_⟩);refine cV vP (au hl (by decide)) (fun H1 s1=>SqT.of (s1 _ _ hr)) (fun i v _=>v=.str (sgn (l.2.getD i .non))) (fun _ _ _ _ _ h=>h) (fun τ=>∃t,τ=[t]) ⟨none,rfl⟩ ?_ ?_
 ·rintro i y τ H3 R hi ⟨t,rfl⟩ s3 hy k
  obtain⟨j,rfl,hj⟩:=lit01 y (hrd y (a7 hy));walk_at "wp";exact⟨_,by decide+kernel,hj,k _ _ _ ⟨_,rfl⟩ (aN.refl _) (by rw[getD_some hy];rfl)⟩
 ·intro vs H2 m hvl hF s2 hm2
  have e:vs=l.2.map fun y=>V.str (sgn y):=nW hvl hF;subst e;refine⟨"",m,l.2.map sgn,rfl,rfl,?_,by decide+kernel,by rw[ones,av];omega,?_⟩
  ·rw[dY];exact SqL.of ak
  rw[Al];have s3:=s2.trans (az (o:=.lst (l.2.map fun y=>V.str (sgn y))) hm2);generalize upd H2 m (.lst (l.2.map fun y=>V.str (sgn y)))=H3 at s3;unfold mn;walk_at "wp";by_cases h0:l.2=[]
  ·rw[h0,if_pos (by decide+kernel)]
   have :=vK (G:=G) (K:=K) (E:=fun _=>E) (D:={nx:=fun _ H'=>Q .non H',rt:=Q}) (s3 _ _ hb) hn hl (q H3 s3)
   rw[show rdT l.2="-" from by unfold rdT;rw[if_pos h0]]at this;exact this
  ·rw[if_neg ?_]
   ·have :=vK (G:=G) (K:=K) (E:=fun _=>E) (D:={nx:=fun _ H'=>Q .non H',rt:=Q}) (s3 _ _ hb) hn hl (q H3 s3)
    rw[show rdT l.2=mkS (l.2.map K11.code)from by unfold rdT;rw[if_neg h0]]at this;exact this
   ·rw[decide_eq_true_eq]
    intro z;have :=congrArg bX z;rw[cU,av]at this;exact h0 (cy.mp (this.trans (by decide+kernel)))
noncomputable def yW:Sp:=fun vs H Q _=>∃(l:Str×List V)(way:Int),vs=[.str (bq l),.int way]/\fu l/\∀H' z,aN H H'->Bd z->Q (.str z) H'
theorem yA:(⟨(aV (lb 61) (k7 (("0":String):Str))).foldl (·++·) #[]⟩:Str)=zeros:=by decide+kernel
theorem figs_is:(⟨(aV (lb 30) (k7 (("01":String):Str))).foldl (·++·) #[]⟩:Str)=oA:=by decide+kernel
section
variable {G:Gam}{K:aa}{E:XS}{Q:VK}{D:Ends}{H0 H:Hp}{way:Int}{l:Str×List V}{p:Addr}
noncomputable def BdK(H:Hp)(Q:VK):Prop:=∀H' z,aN H H'->Bd z->Q (.str z) H'
theorem sp_4{L:List Str}{x0:Option V}(hr:D.rt=Q)(q:BdK H0 Q)(s:aN H0 H)(hp:H p=some (.lst (L.map V.str)))(hl:L.length=21)(hb:∀z∈L,Bd z):
  wpB G K E eF D [x0,some (.int way),some (.ref p)] H:=by
 unfold eF;walk_at "wp";have h0:0<=way%21:=bu _ (by decide);have h1:way%21<21:=bZ _ (by decide);obtain⟨k,hk⟩:=jf h0;have hkl:k<L.length:=by omega
 refine⟨by decide,.inl ⟨p,_,way%21,.str L[k],rfl,rfl,SqL.of hp,?_,?_⟩⟩
 ·rw[hk]
  exact ib (by rw[bw,ah hkl];rfl)
 ·rw[hr]
  exact q H _ s (hb _ (dj _))
theorem cat3{x0 x1:Option V}{A B:List Str}{c:CB}(s:aN H0 H){a b:Addr}(ha:H a=some (.lst (A.map V.str)))(hb:H b=some (.lst (B.map V.str)))(hl:A.length+B.length<=100)
  (k:∀H1 p1,aN H0 H1->H1 p1=some (.lst ((A++B).map V.str))->wpB G K E c D [x0,x1,some (.ref p1)] H1):
  gT K .Add (.ref a) (.ref b) H fun v H1=>wpB G K E c D [x0,x1,some v] H1:=by
 refine .inr (.inr (.inl ⟨a,b,_,_,rfl,rfl,ha,hb,by rw[av,av];exact au hl (by decide),fun p1 hp1=>?_⟩));exact k _ p1 (s.trans (az hp1)) (by rw[cT];exact ak)
theorem lr(f:fu l):(bq l).length<=69:=zw (fo f.nm) f.len
noncomputable abbrev lA(l:Str×List V):List Str:=[bq l++" "," "++bq l,gq (bq l) " " "  ",bq l++" 0",l.1,bq l++"2",bq l++"\t"]
noncomputable abbrev lB(l:Str×List V):List Str:=[upS (fH (bq l) none (some 1))++fH (bq l) (some 1) none,gq (bq l) " " "\t",bq l++zeros,"","a","a b","a 0-"]
noncomputable abbrev lC(l:Str×List V):List Str:=["a -0","- 0","abcdefghi 0","a 0 1","0 a","a 01 ",l.1++" "++oA++"1"]
theorem sp_3{L:List Str}(hr:D.rt=Q)(q:BdK H0 Q)(s:aN H0 H)(f:fu l)(hp:H p=some (.lst (L.map V.str)))(hl:L.length=14)(hb:∀z∈L++lC l,Bd z):
  wpB G K E eG D [some (.str (bq l)),some (.int way),some (.ref p)] H:=by
 have hz:=lr f;have hn:=fo f.nm;unfold eG;walk_at "wp";refine⟨rfl,bq l," ",rfl,rfl,by decide+kernel,au (cX hz 2) (by decide),fun m hm=>?_⟩;rw[jj f.nm];have s1:=az (o:=.lst ([l.1,rdT l.2].map V.str)) hm;have h1:upd H m (.lst ([l.1,rdT l.2].map V.str)) m=_:=ak;generalize upd H m (.lst ([l.1,rdT l.2].map V.str))=H1 at s1 h1;refine .inl ⟨m,_,0,.str l.1,rfl,rfl,SqL.of h1,rfl,?_⟩;have l1:bX ((" ":String):Str)=1:=by decide+kernel
 have l6:oA.length=60:=by decide+kernel
 refine j9.mpr ⟨sl (by omega),.inr (.inr ⟨"01",30,rfl,rfl,by decide,by decide,by decide+kernel,by decide+kernel,?_⟩)⟩;rw[figs_is];refine j9.mpr ⟨sl (by rw[cg];omega),j9.mpr ⟨sl ?_,?_⟩⟩
 ·rw[cg,cg,show bX (("1":String):Str)=1 from by decide+kernel]
  omega
 refine⟨sl (by simp),fun p2 hp2=>?_⟩;have s2:=az (o:=.lst ((lC l).map V.str)) hp2;have h2:upd H1 p2 (.lst ((lC l).map V.str)) p2=_:=ak;change gT K .Add (.ref p) (.ref p2) (upd H1 p2 (.lst ((lC l).map V.str))) fun v H1=>wpB G K E eF D [some (.str (bq l)),some (.int way),some v] H1;generalize upd H1 p2 (.lst ((lC l).map V.str))=H2 at s2 h2;refine cat3 (s.trans (s1.trans s2)) (s2 _ _ (s1 _ _ hp)) h2 (by rw[hl];simp) fun H3 p3 s3 h3=>?_;exact sp_4 hr q s3 h3 (by rw[aD,hl];rfl) hb
theorem up1(f:fu l):(upS (fH (bq l) none (some 1))).length<=1/\1<=(upS (fH (bq l) none (some 1))).length:=by
 obtain⟨c,r,e,hc⟩:∃c r,l.1.cps.toList=c::r/\cw c=true:=by
  have hn:=f.nm;unfold bL at hn;rw[ae,decide_eq_true_eq,aM]at hn;cases hw:l.1.cps.toList with
  |nil=>have :=hn.1.1;rw[R.str_len,hw]at this;exact absurd this (by decide)
  |cons c r=>exact⟨c,r,rfl,hn.2 c (by rw[hw];exact aq)⟩
 have ej:bq l=mkS (c::(r++32::(rdT l.2).cps.toList)):=by rw[uX];exact fE (by rw[d8,e];rfl)
 have c1:fH (bq l) none (some 1)=⟨#[c]⟩:=by rw[ej];exact oG (c::_) 1
 rw[c1,(sA hc).1];exact⟨ao _,ao _⟩
theorem sp_2(hr:D.rt=Q)(q:BdK H0 Q)(s:aN H0 H)(f:fu l)(hp:H p=some (.lst ((lA l).map V.str))):
  wpB G K E gp D [some (.str (bq l)),some (.int way),some (.ref p)] H:=by
 have hz:=lr f;have hn:=fo f.nm;have lz:zeros.length=61:=by decide+kernel
 have hzl:(bq l).length<=sizeLine:=sl (by omega);obtain⟨u1,u2⟩:=up1 f;have hc:=mi (bq l) (some 1) none;have hc1:1<=(fH (bq l) (some 1) none).length:=by
  have hd:fH (bq l) (some 1) none=mkS ((bq l).cps.toList.drop 1):=oH (bq l).cps.toList 1;rw[hd,cU,di,<-R.str_len];unfold bq;rw[cg,cg,lj];have h1:=(qO l.2).1;have h2:=f.nm;unfold bL at h2;rw[ae,decide_eq_true_eq]at h2;omega
 unfold gp;walk_at "wp";unfold sE;walk_at "wp";refine⟨hzl,rfl,fH (bq l) none (some 1),rfl,rfl,?_,hzl,_,_,bq l,rfl,rfl,⟨u2,hc1,sl (by omega),by omega⟩,rfl,?_⟩
 ·have :=mi (bq l) none (some 1)
  omega
 refine .inr (.inr ⟨"0",61,rfl,rfl,by decide,by decide,by decide+kernel,by decide+kernel,?_⟩);rw[yA];refine j9.mpr ⟨sl (by omega),sl (by simp),fun p2 hp2=>?_⟩;have s2:=az (o:=.lst ((lB l).map V.str)) hp2;have h2:upd H p2 (.lst ((lB l).map V.str)) p2=_:=ak;change gT K .Add (.ref p) (.ref p2) (upd H p2 (.lst ((lB l).map V.str))) fun v H1=>wpB G K E eG D [some (.str (bq l)),some (.int way),some v] H1;generalize upd H p2 (.lst ((lB l).map V.str))=H2 at s2 h2;refine cat3 (s.trans s2) (s2 _ _ hp) h2 (by simp) fun H3 p3 s3 h3=>?_;exact sp_3 hr q s3 f h3 (by simp) (spl_bad f)
theorem sp_1(hr:D.rt=Q)(q:BdK H Q)(f:fu l):wpB G K E hX D [some (.str (bq l)),some (.int way),none] H:=by
 have hz:=lr f;have hn:=fo f.nm;have hzl:(bq l).length<=sizeLine:=sl (by omega);unfold hX;walk_at "wp";unfold sE;walk_at "wp";have l1:bX ((" ":String):Str)=1:=by decide+kernel
 have l2:bX ((" 0":String):Str)=2:=by decide+kernel
 have l3:bX (("2":String):Str)=1:=by decide+kernel
 have l4:bX (("\t":String):Str)=1:=by decide+kernel
 have h1:1<=(bq l).length:=by
  unfold bq;rw[cg,cg,lj];omega
 refine⟨sl (by omega),_,_,bq l,rfl,rfl,⟨by omega,h1,sl (by omega),by omega⟩,rfl,sl (by omega),rfl,?_⟩;refine⟨bq l," ",rfl,rfl,by decide+kernel,au (cX hz 2) (by decide),fun m hm=>?_⟩;rw[jj f.nm];have s1:=az (o:=.lst ([l.1,rdT l.2].map V.str)) hm;have h1:upd H m (.lst ([l.1,rdT l.2].map V.str)) m=_:=ak;generalize upd H m (.lst ([l.1,rdT l.2].map V.str))=H1 at s1 h1;refine .inl ⟨m,_,0,.str l.1,rfl,rfl,SqL.of h1,rfl,sl (by omega),sl (by omega),sl (by simp),fun p hp=>?_⟩;exact sp_2 hr q (s1.trans (az hp)) f ak
end
theorem wp_sl{G:Gam}{K:aa}:Sat G K yW hX kz:=by
 rintro vs H Q E ⟨l,way,rfl,f,q⟩;change wpB G K _ _ _ [some (.str (bq l)),some (.int way),none] H;exact sp_1 rfl q f
structure Hit(L:List (Str×List V))(z:Str):Prop where
 len:z.length<=200
 nl:10∉z.cps.toList
 no:jT z=none\/∃l,jT z=some l/\¬Good (L++[l])
theorem Bd.hit{L:List (Str×List V)}{z:Str}(b:Bd z):Hit L z:=⟨b.len,b.nl,.inl b.no⟩
theorem uW{l:Str×List V}(f:fu l):10∉(bq l).cps.toList:=by
 rw[uX];refine J_no fun w hw=>?_;simp only[aA,bh,or_false]at hw;rcases hw with rfl|rfl
 ·exact f.w1.2.1
 ·exact f.w2.2.1
theorem wB{L:List (Str×List V)}{l:Str×List V}(f:fu l)(h:¬Good (L++[l])):Hit L (bq l):=
 ⟨au (lr f) (by decide),uW f,.inr ⟨l,mR f,h⟩⟩
structure TF(c:Int)(n i:Nat)(rs:List Str)(L:List (Str×List V))(bs:List Str)(f:Int):Prop where
 gd:Good L
 ct:∀l∈L,l.2.length=n
 nm:∀l∈L,∃k<i,l.1=nm1 c (k:Nat)
 row:∀z∈rs,z.length<=200/\10∉z.cps.toList
 bd:∀z∈bs,Bd z
 rl:rs.length<=i
 st:(f= -1/\rs=L.map bq)\/∃L0:List (Str×List V),f=L0.length/\Good L0/\pG rs L0/\Halt rs L0
theorem Good.fine{L:List (Str×List V)}(g:Good L){l:Str×List V}(h:l∈L):fu l:=let⟨_,hn,hc⟩:=g.ct;⟨g.nm l h,by rw[hc l h];exact hn,g.rd l h⟩
theorem sL{L:List (Str×List V)}(g:Good L):pG (L.map bq) L:=fun i l h=>⟨bq l,by rw[bw,h];rfl,mR (K13.Good.fine g (a7 h))⟩
theorem pG.more{rs:List Str}{L:List (Str×List V)}(s:pG rs L)(z:Str):pG (rs++[z]) L:=fun i l h=>by
 obtain⟨y,e1,e2⟩:=s i l h;exact⟨y,by rw[ck (aE.mp e1).1];exact e1,e2⟩
theorem Halt.more{rs:List Str}{L:List (Str×List V)}(s:Halt rs L)(z:Str):Halt (rs++[z]) L:=by
 obtain⟨y,e1,e2⟩:=s;exact⟨y,by rw[ck (aE.mp e1).1];exact e1,e2⟩
section
variable {c:Int}{n i:Nat}{rs bs:List Str}{L:List (Str×List V)}{f:Int}{l:Str×List V}{z:Str}
theorem TF.next(t:TF c n i rs L bs f):TF c n (i+1) rs L bs f:={t with nm:=fun l h=>let⟨k,a,b⟩:=t.nm l h;⟨k,by omega,b⟩,rl:=fz t.rl}
theorem TF.spoil(t:TF c n i rs L bs f)(b:Bd z):TF c n i rs L (bs++[z]) f:={t with
 bd:=fun y hy=>by
  rcases bJ.mp hy with hy|hy
  ·exact t.bd y hy
  ·rw[bc.mp hy];exact b}
theorem TF.good(t:TF c n i rs L bs f)(hL:L.length<40)(hi:i<52)(e:l.1=nm1 c i)(hn:n<=60)(hl:l.2.length=n)(hr:∀y∈l.2,aK y=true):TF c n (i+1) (rs++[bq l]) (L++[l]) bs f:=by
 have fl:fu l:=⟨by rw[e];exact nM c i,by omega,hr⟩;have hin:∀{P:Str×List V->Prop},(∀l∈L,P l)->P l->∀x∈L++[l],P x:=fun h1 h2 x hx=>by
  rcases bJ.mp hx with hx|hx
  ·exact h1 x hx
  ·rw[bc.mp hx];exact h2
 have g:Good (L++[l]):=by
  refine⟨by rw[aD];exact hL,hin t.gd.nm fl.nm,hin t.gd.rd hr,?_,n,hn,hin t.ct hl⟩;rw[cT,fm];refine⟨t.gd.nd,by simp,fun x hx y hy=>?_⟩;obtain⟨l',hl',rfl⟩:=bA.mp hx;obtain⟨k,hk,ek⟩:=t.nm l' hl';have ey:y=l.1:=by simpa using hy
  rw[ey,ek,e];intro z;have :=wq (by omega) hi z;omega
 refine⟨g,hin t.ct hl,hin (fun l h=>let⟨k,a,b⟩:=t.nm l h;⟨k,by omega,b⟩) ⟨i,by omega,e⟩,fun z hz=>?_,t.bd,by rw[aD];have :=t.rl;simp;omega,?_⟩
 ·rcases bJ.mp hz with hz|hz
  ·exact t.row z hz
  ·rw[bc.mp hz]
   exact⟨au (lr fl) (by decide),uW fl⟩
 ·rcases t.st with⟨h1,h2⟩ |⟨L0,h1,h2,h3,h4⟩
  ·exact .inl ⟨h1,by rw[h2,cT];rfl⟩
  ·exact .inr ⟨L0,h1,h2,h3.more _,h4.more _⟩
theorem TF.bad(t:TF c n i rs L bs f)(h:Hit L z):TF c n (i+1) (rs++[z]) L bs (if f<0 then(rs.length:Int)else f):=by
 refine{t.next with row:=fun y hy=>?_,rl:=by rw[aD];have :=t.rl;simp;omega,st:=?_}
 ·rcases bJ.mp hy with hy|hy
  ·exact t.row y hy
  ·rw[bc.mp hy];exact⟨h.len,h.nl⟩
 ·right
  rcases t.st with⟨h1,h2⟩ |⟨L0,h1,h2,h3,h4⟩
  ·refine⟨L,by rw[h1,if_pos (by decide),h2,av],t.gd,?_,z,?_,h.no⟩
   ·rw[h2];exact(sL t.gd).more _
   ·rw[h2,cf (by rw[av];exact ao _)]
    simp
  ·exact⟨L0,by rw[h1,if_neg (by omega)],h2,h3.more _,h4.more _⟩
theorem tm(h:40<=L.length):¬Good (L++[l]):=fun g=>by
 have :=g.len
 rw[aD]at this;simp at this;omega
theorem zY(h:l.1∈L.map (·.1)):¬Good (L++[l]):=fun g=>by
 have :=g.nd
 rw[cT,fm]at this;exact this.2.2 l.1 h l.1 (by simp) rfl
theorem p7(t:TF c n i rs L bs f)(hL:L≠[])(h:l.2.length≠n):¬Good (L++[l]):=fun g=>by
 obtain⟨m,_,hc⟩:=g.ct;obtain⟨x,hx⟩:=List.exists_mem_of_ne_nil L hL;have h1:=hc x (bG _ hx);have h2:=hc l (aG _ aq);have h3:=t.ct x hx;omega
end
structure Ds(Hb:Hp)(a3 a4 a5 l:Addr):Prop where
 n3:Hb a3=none
 n4:Hb a4=none
 n5:Hb a5=none
 d34:a3≠a4
 d35:a3≠a5
 d45:a4≠a5
 l3:l≠a3
 l4:l≠a4
 l5:l≠a5
structure LS(Hb:Hp)(a3 a4 a5 l:Addr)(xs:List V)(rs:List Str)(ys:List V)(L:List (Str×List V))(bs:List Str)(H:Hp):Prop where
 sm:aN Hb H
 e3:H a3=some (.lst (rs.map V.str))
 e4:H a4=some (.lst ys)
 e5:H a5=some (.lst (bs.map V.str))
 el:H l=some (.lst xs)
 sh:Sh H ys L
noncomputable def mJ(H:Hp)(w:V)(l:Str×List V):Prop:=∃b r,w=V.ref b/\H b=some (.tup [.str l.1,.ref r])/\H r=some (.tup l.2)/\∀y∈l.2,aK y=true
section
variable {Hb H H':Hp}{a a3 a4 a5 l:Addr}{xs ys:List V}{rs bs:List Str}{L:List (Str×List V)}
theorem LS.same(h:LS Hb a3 a4 a5 l xs rs ys L bs H)(s:aN H H'):LS Hb a3 a4 a5 l xs rs ys L bs H':=⟨h.sm.trans s,s _ _ h.e3,s _ _ h.e4,s _ _ h.e5,s _ _ h.el,h.sh.same s⟩
theorem LS.app3(d:Ds Hb a3 a4 a5 l)(h:LS Hb a3 a4 a5 l xs rs ys L bs H)(z:Str):LS Hb a3 a4 a5 l xs (rs++[z]) ys L bs (upd H a3 (.lst (rs.map V.str++[.str z]))):=
 ⟨gS h.sm d.n3,by rw[cT];exact ak,by rw[aL (bO d.d34)];exact h.e4,by rw[aL (bO d.d35)];exact h.e5,by rw[aL d.l3];exact h.el,K12.Sh.set h.sh h.e3⟩
theorem LS.app5(d:Ds Hb a3 a4 a5 l)(h:LS Hb a3 a4 a5 l xs rs ys L bs H)(z:Str):LS Hb a3 a4 a5 l xs rs ys L (bs++[z]) (upd H a5 (.lst (bs.map V.str++[.str z]))):=
 ⟨gS h.sm d.n5,by rw[aL d.d35];exact h.e3,by rw[aL d.d45];exact h.e4,by rw[cT];exact ak,by rw[aL d.l5];exact h.el,K12.Sh.set h.sh h.e5⟩
theorem LS.app4(d:Ds Hb a3 a4 a5 l)(h:LS Hb a3 a4 a5 l xs rs ys L bs H){v:V}{k:Str×List V}(o:mJ H v k):LS Hb a3 a4 a5 l xs rs (ys++[v]) (L++[k]) bs (upd H a4 (.lst (ys++[v]))):=
 ⟨gS h.sm d.n4,by rw[aL d.d34];exact h.e3,ak,by rw[aL (bO d.d45)];exact h.e5,by rw[aL d.l4];exact h.el,K12.Sh.set (wY h.sh o) h.e4⟩
noncomputable def TV(Hb:Hp)(a a3 a4 a5 l:Addr)(xs:List V)(c:Int)(n i:Nat)(σ:L2.St)(H:Hp):Prop:=∃rs ys L bs f x7 x8 x9 x10 x11 x12 x13 x14 x15,LS Hb a3 a4 a5 l xs rs ys L bs H/\TF c n i rs L bs f/\bs.length<=i/\
 σ=[some (.ref a),some (.int c),some (.int n),some (.ref a3),some (.ref a4),some (.ref a5),some (.int f),x7,x8,x9,x10,x11,x12,x13,x14,x15]
variable {G:Gam}{K:aa}{E:XS}{D:Ends}{c f:Int}{n i:Nat}{ns:List Int}{z:Str}{x7 x8 x9 x10 x11 x12 x13 x14 x15:Option V}
theorem uK(d:Ds Hb a3 a4 a5 l)(ls:LS Hb a3 a4 a5 l xs rs ys L bs H)(hrl:rs.length<=60)(hbl:bs.length<=i+1)(tf:TF c n (i+1) (rs++[z]) L bs f)(hD:∀σ H,TV Hb a a3 a4 a5 l xs c n (i+1) σ H->D.nx σ H):
  wpB G K E eY D [some (.ref a),some (.int c),some (.int n),some (.ref a3),some (.ref a4),some (.ref a5),some (.int f),x7,x8,x9,x10,some (.str z),x12,x13,x14,x15] H:=by
 have hap:(rs.map V.str).length<sizeLine:=by rw[av];exact gZ hrl (by decide)
 unfold eY;walk_at "wp";exact⟨.inl ⟨rfl,_,SqL.of ls.e3⟩,a3,_,.str z,rfl,rfl,ls.e3,hap,hD _ _ ⟨_,_,_,_,_,_,_,_,_,_,_,_,_,_,ls.app3 d z,tf,hbl,rfl⟩⟩
theorem tx_77(g1:G.fn "_law_cell_at" 2=some (jS K,[]))(hs:SqL K Hb a (ns.map V.int))(d:Ds Hb a3 a4 a5 l)(ls:LS Hb a3 a4 a5 l xs rs ys L bs H)(hrl:rs.length<=60)(hbl:bs.length<=i+1){g:Bool}(h1:g=true->TF c n (i+1) (rs++[z]) L bs f)(h2:g=false->TF c n i rs L bs f/\Hit L z)
  (hD:∀σ H,TV Hb a a3 a4 a5 l xs c n (i+1) σ H->D.nx σ H):
  wpB G K E eE D [some (.ref a),some (.int c),some (.int n),some (.ref a3),some (.ref a4),some (.ref a5),some (.int f),x7,x8,x9,x10,some (.str z),some (.bl g),x13,x14,x15] H:=by
 cases g with
 |true=>
  unfold eE;walk_at "wp";refine⟨true,rfl,?_⟩;rw[if_pos rfl,if_pos trivial];refine⟨true,rfl,?_⟩;rw[if_neg (by decide),if_neg (by decide)];exact uK d ls hrl hbl (h1 rfl) hD
 |false=>
  obtain⟨tf,hit⟩:=h2 rfl;unfold eE;walk_at "wp";refine⟨false,rfl,?_⟩;rw[if_neg (by decide)];refine⟨_,_,g1,a,ns,1,rfl,ls.sm.seq hs,?_⟩;refine nU.mpr ⟨by decide,wJ.mpr ⟨_,rfl,?_⟩⟩;have tb:=tf.bad hit;by_cases ho:ns.getD 1 0%2=1
  ·rw[if_pos (by rw[decide_eq_true_eq];exact ho)]
   refine⟨false,rfl,?_⟩;rw[if_pos (by decide)];by_cases hf:f<0
   ·rw[if_pos (by rw[decide_eq_true_eq];exact hf)]
    rw[if_pos hf]at tb;refine .inl ⟨a3,_,rfl,.inl (SqL.of ls.e3),?_⟩;rw[av];exact uK d ls hrl hbl tb hD
   ·rw[if_neg (by rw[decide_eq_true_eq];exact hf)]
    rw[if_neg hf]at tb;exact uK d ls hrl hbl tb hD
  ·rw[if_neg (by rw[decide_eq_true_eq];exact ho)]
   exact hD _ _ ⟨_,_,_,_,_,_,_,_,_,_,_,_,_,_,ls,tf.next,hbl,rfl⟩
structure Fit(c:Int)(n i:Nat)(L:List (Str×List V))(k:Str×List V):Prop where
 few:L.length<40
 nm:k.1=nm1 c i
 len:k.2.length=n
 rd:∀y∈k.2,aK y=true
variable {b:Addr}{k:Str×List V}
theorem tx_76(g1:G.fn "_law_cell_at" 2=some (jS K,[]))(hs:SqL K Hb a (ns.map V.int))(d:Ds Hb a3 a4 a5 l)(ls:LS Hb a3 a4 a5 l xs rs ys L bs H)(hi:i<52)(hn:n<=60)(hbl:bs.length<=i+1){g:Bool}(tf:TF c n i rs L bs f)(h1:g=true->mJ H (.ref b) k/\z=bq k/\Fit c n i L k)(h2:g=false->Hit L z)
  (hD:∀σ H,TV Hb a a3 a4 a5 l xs c n (i+1) σ H->D.nx σ H):
  wpB G K E bQ D [some (.ref a),some (.int c),some (.int n),some (.ref a3),some (.ref a4),some (.ref a5),some (.int f),x7,x8,x9,some (.ref b),some (.str z),some (.bl g),x13,x14,x15] H:=by
 have hrl:rs.length<=60:=by have :=tf.rl;omega
 cases g with
 |true=>
  obtain⟨o,e,ft⟩:=h1 rfl;subst e;unfold bQ;walk_at "wp";refine⟨true,rfl,?_⟩;rw[if_pos rfl];refine⟨.inl ⟨rfl,_,SqL.of ls.e4⟩,a4,_,.ref b,rfl,rfl,ls.e4,?_,?_⟩
  ·rw[iS ls.sh]
   exact jB ft.few (by decide)
  ·exact tx_77 g1 hs d (ls.app4 d o) hrl hbl (fun _=>tf.good ft.few hi ft.nm hn ft.len ft.rd) (fun h=>nomatch h) hD
 |false=>
  unfold bQ;walk_at "wp";refine⟨false,rfl,?_⟩;rw[if_neg (by decide)];exact tx_77 g1 hs d ls hrl hbl (fun h=>nomatch h) (fun _=>⟨tf,h2 rfl⟩) hD
theorem mJ.same(o:mJ H (.ref b) k)(s:aN H H'):mJ H' (.ref b) k:=let⟨b,r,e1,e2,e3,e4⟩:=o;⟨b,r,e1,s _ _ e2,s _ _ e3,e4⟩
noncomputable def ue(G:Gam)(K:aa)(E:XS)(D:Ends)(Hb:Hp)(a a3 a4 a5 l:Addr)(xs:List V)(c:Int)(n i:Nat)(b:Addr):Prop:=
 ∀rs ys L bs (f:Int) z H x7 x8 x9 x13 x14 x15,LS Hb a3 a4 a5 l xs rs ys L bs H->TF c n i rs L bs f->bs.length<=i+1->Hit L z->wpB G K E bQ D [some (.ref a),some (.int c),some (.int n),some (.ref a3),some (.ref a4),some (.ref a5),some (.int f),x7,x8,x9,some (.ref b),some (.str z),some (.bl false),x13,x14,x15] H
variable {D':Ends}{m:Int}
theorem tx_755(g2:G.fn "_law_row" 1=some (uR,[]))(ls:LS Hb a3 a4 a5 l xs rs ys L bs H)(tf:TF c n i rs L bs f)(hbl:bs.length<=i){p:Addr}{j:Str×List V}(o:mJ H (.ref p) j)(fj:fu j)(nj:¬Good (L++[j]))(nf:ue G K E D Hb a a3 a4 a5 l xs c n i b)(hN:∀σ H,wpB G K E bQ D σ H->D'.nx σ H):
  wpB G K E dE D' [some (.ref a),some (.int c),some (.int n),some (.ref a3),some (.ref a4),some (.ref a5),some (.int f),x7,x8,x9,some (.ref b),x11,x12,x13,x14,some (.ref p)] H:=by
 obtain⟨p',r,ep,hp,hr,hrd⟩:=o;injection ep with ep
 subst ep;unfold dE;walk_at "wp";refine⟨_,_,g2,p,r,j,rfl,hp,hr,fo fj.nm,fj.len,hrd,fun H1 s1=>?_⟩;unfold gV;walk_at "wp";exact hN _ _ (nf _ _ _ _ _ _ _ _ _ _ _ _ _ (ls.same s1) tf (fz hbl) (wB fj nj))
theorem plus0{ks:List V}{r p:Addr}{R:VK}(hr:H r=some (.tup ks))(hp:H p=some (.tup [.int 0]))(hk:ks.length<=60)(q:∀H' q,aN H H'->H' q=some (.tup (ks++[.int 0]))->R (.ref q) H'):gT K .Add (.ref r) (.ref p) H R:=by
 by_cases h0:ks=[]
 ·subst h0
  exact .inr (.inr (.inr (.inr ⟨r,p,_,rfl,rfl,SqT.of hr,SqT.of hp,q H p (aN.refl _) hp⟩)))
 ·exact .inr (.inr (.inr (.inl ⟨r,p,_,_,rfl,rfl,SqT.of hr,SqT.of hp,h0,sl (by simp;omega),(fun h=>by cases h),fun _ p' hp'=>q _ p' (az hp') ak⟩)))
theorem qN{ks:List V}(h:∀y∈ks,aK y=true):∀y∈ks++[V.int 0],aK y=true:=fun y hy=>by
 rcases bJ.mp hy with hy|hy
 ·exact h y hy
 ·rw[bc.mp hy];rfl
theorem yJ(g2:G.fn "_law_row" 1=some (uR,[]))(ls:LS Hb a3 a4 a5 l xs rs ys L bs H)(tf:TF c n i rs L bs f)(hbl:bs.length<=i)(hn:n<=59)(hL:L≠[])(o:mJ H (.ref b) k)(fk:fu k)(e2:k.2.length=n){w:Str}(hw:w∈L.map (·.1)){q:Addr}{us:List V}(hq:H q=some (.tup us))(hul:us.length<=60)(hun:us.length≠n)(hur:∀y∈us,aK y=true)
  (nf:ue G K E D Hb a a3 a4 a5 l xs c n i b)(hN:∀σ H,wpB G K E bQ D σ H->D'.nx σ H):
  wpB G K E eZ D' [some (.ref a),some (.int c),some (.int n),some (.ref a3),some (.ref a4),some (.ref a5),some (.int f),x7,x8,some (.int m),some (.ref b),x11,x12,some (.str w),some (.ref q),x15] H:=by
 obtain⟨b',r,eb,hb,hr,hrd⟩:=o;injection eb with eb
 subst eb;have nw:bL w=true:=by
  obtain⟨l',hl',rfl⟩:=bA.mp hw;exact tf.gd.nm l' hl'
 unfold eZ;walk_at "wp";refine .inr (.inl ⟨b,_,1,.ref r,rfl,rfl,SqT.of hb,rfl,short (by show 2<=40;decide),fun p1 hp1=>?_⟩);have s1:=az (o:=.tup [V.str w,V.ref r]) hp1;have h1:upd H p1 (.tup [V.str w,V.ref r]) p1=_:=ak;generalize upd H p1 (.tup [V.str w,V.ref r])=H1 at s1 h1;refine .inr (.inl ⟨b,_,0,.str k.1,rfl,rfl,SqT.of (s1 _ _ hb),rfl,.inr (.inl ⟨b,_,1,.ref r,rfl,rfl,SqT.of (s1 _ _ hb),rfl,short (by show 1<=40;decide),fun p2 hp2=>?_⟩)⟩);have s2:=az (o:=.tup [V.int 0]) hp2;have h2:upd H1 p2 (.tup [V.int 0]) p2=_:=ak;generalize upd H1 p2 (.tup [V.int 0])=H2 at s2 h2;refine plus0 (s2 _ _ (s1 _ _ hr)) h2 (by omega) fun H3 r3 s3 h3=>⟨short (by show 2<=40;decide),fun p4 hp4=>?_⟩;have s4:=az (o:=.tup [V.str k.1,V.ref r3]) hp4;have h4:upd H3 p4 (.tup [V.str k.1,V.ref r3]) p4=_:=ak;generalize upd H3 p4 (.tup [V.str k.1,V.ref r3])=H4 at s4 h4;have s14:=(s1.trans s2).trans (s3.trans s4);refine .inr (.inl ⟨b,_,0,.str k.1,rfl,rfl,SqT.of (s14 _ _ hb),rfl,short (by show 2<=40;decide),fun p5 hp5=>⟨short (by show 3<=40;decide),fun p6 hp6=>⟨⟨by decide,by decide⟩,by decide,?_⟩⟩⟩);have s5:=az (o:=.tup [V.str k.1,V.ref q]) hp5;have h5:upd H4 p5 (.tup [V.str k.1,V.ref q]) p5=_:=ak;generalize upd H4 p5 (.tup [V.str k.1,V.ref q])=H5 at s5 h5 hp6;have s6:=az (o:=.lst [V.ref p1,V.ref p4,V.ref p5]) hp6;have h6:upd H5 p6 (.lst [V.ref p1,V.ref p4,V.ref p5]) p6=_:=ak;generalize upd H5 p6 (.lst [V.ref p1,V.ref p4,V.ref p5])=H6 at s6 h6;have s16:=s14.trans (s5.trans s6);have go:∀{p:Addr}{j:Str×List V},mJ H6 (.ref p) j->fu j->¬Good (L++[j])->wpB G K E dE D' [some (.ref a),some (.int c),some (.int n),some (.ref a3),some (.ref a4),some (.ref a5),some (.int f),x7,x8,some (.int m),some (.ref b),x11,x12,some (.str w),some (.ref q),some (.ref p)] H6:=
  fun o' fj nj=>tx_755 g2 (ls.same s16) tf hbl o' fj nj nf hN
 have hc:m/2%3=0\/m/2%3=1\/m/2%3=2:=by omega
 have e46:=s5.trans s6;rcases hc with e|e|e<;>rw[e]
 ·refine .inl ⟨p6,_,0,.ref p1,rfl,rfl,SqL.of h6,rfl,?_⟩
  exact go (j:=(w,k.2)) ⟨p1,r,rfl,e46 _ _ (s4 _ _ (s3 _ _ (s2 _ _ h1))),s16 _ _ hr,hrd⟩ ⟨nw,fk.len,hrd⟩ (zY hw)
 ·refine .inl ⟨p6,_,1,.ref p4,rfl,rfl,SqL.of h6,rfl,?_⟩
  exact go (j:=(k.1,k.2++[.int 0])) ⟨p4,r3,rfl,e46 _ _ h4,e46 _ _ (s4 _ _ h3),qN hrd⟩ ⟨fk.nm,by simp;omega,qN hrd⟩ (p7 tf hL (by simp;omega))
 ·refine .inl ⟨p6,_,2,.ref p5,rfl,rfl,SqL.of h6,rfl,?_⟩
  exact go (j:=(k.1,us)) ⟨p5,q,rfl,s6 _ _ h5,s16 _ _ hq,hur⟩ ⟨fk.nm,hul,hur⟩ (p7 tf hL hun)
theorem tx_752(g2:G.fn "_law_row" 1=some (uR,[]))(ls:LS Hb a3 a4 a5 l xs rs ys L bs H)(tf:TF c n i rs L bs f)(hbl:bs.length<=i)(hn:n<=59)(hL:L≠[])(o:mJ H (.ref b) k)(fk:fu k)(e2:k.2.length=n){w:Str}(hw:w∈L.map (·.1))
  (nf:ue G K E D Hb a a3 a4 a5 l xs c n i b)(hN:∀σ H,wpB G K E bQ D σ H->D'.nx σ H):
  wpB G K E ff D' [some (.ref a),some (.int c),some (.int n),some (.ref a3),some (.ref a4),some (.ref a5),some (.int f),x7,x8,some (.int m),some (.ref b),x11,x12,some (.str w),x14,x15] H:=by
 obtain⟨b',r,eb,hb,hr,hrd⟩:=id o;injection eb with eb
 subst eb;unfold ff;walk_at "wp";refine .inr (.inl ⟨b,_,1,.ref r,rfl,rfl,SqT.of hb,rfl,short (by show 1<=40;decide),fun p1 hp1=>?_⟩);have s1:=az (o:=.tup [V.int 0]) hp1;have h1:upd H p1 (.tup [V.int 0]) p1=_:=ak;generalize upd H p1 (.tup [V.int 0])=H1 at s1 h1;refine plus0 (s1 _ _ hr) h1 (by omega) fun H2 r2 s2 h2=>?_;have hb2:=s2 _ _ (s1 _ _ hb);have hr2:=s2 _ _ (s1 _ _ hr);refine .inr (.inl ⟨b,_,1,.ref r,rfl,rfl,SqT.of hb2,rfl,?_⟩);by_cases hn0:n=0
 ·have hk0:k.2=[]:=cy.mp (by omega)
  refine .inr (.inr (.inr ⟨r,_,rfl,SqT.of hr2,rfl,by rw[hk0];rfl,short (by show 2<=40;decide),fun p3 hp3=>?_⟩));have s3:=az (o:=.tup [V.ref r2,V.ref r]) hp3;have h3:upd H2 p3 (.tup [V.ref r2,V.ref r]) p3=_:=ak;generalize upd H2 p3 (.tup [V.ref r2,V.ref r])=H3 at s3 h3;refine .inr ⟨_,rfl,?_⟩;rw[if_neg (by rw[decide_eq_true_eq];omega)];refine .inr (.inl ⟨p3,_,0,.ref r2,rfl,rfl,SqT.of h3,rfl,?_⟩);have s:=(s1.trans s2).trans s3;exact yJ g2 (ls.same s) tf hbl hn hL (o.same s) fk e2 hw (s3 _ _ h2) (by simp;omega) (by simp;omega) (qN hrd) nf hN
 ·obtain⟨ks,y,ek⟩:∃ks y,k.2=ks++[y]:=by
   rcases yr k.2 with h|⟨ks,y,h⟩
   ·rw[h]at e2
    exact absurd e2.symm hn0
   ·exact⟨ks,y,by rw[h];simp⟩
  have hkl:ks.length+1=n:=by rw[<-e2,ek];simp
  refine .inr (.inl ⟨r,_,rfl,SqT.of hr2,?_,fun p3 hp3=>⟨short (by show 2<=40;decide),fun p4 hp4=>?_⟩⟩)
  ·rintro⟨_,h⟩
   have h':HT.sIx k.2.length k.2.length (some (-1))=ks.length:=by
    simp[HT.sIx];omega
   omega
  have ecut:jX k.2 none (some (-1))=ks:=by
   unfold jX;have h':HT.sIx k.2.length k.2.length (some (-1))=ks.length:=by
    simp[HT.sIx];omega
   rw[HT.km,h',ek];simp
  rw[ecut]at hp4⊢;have s3:=az (o:=.tup ks) hp3;have h3:upd H2 p3 (.tup ks) p3=_:=ak;generalize upd H2 p3 (.tup ks)=H3 at s3 h3 hp4;have s4:=az (o:=.tup [V.ref r2,V.ref p3]) hp4;have h4:upd H3 p4 (.tup [V.ref r2,V.ref p3]) p4=_:=ak;generalize upd H3 p4 (.tup [V.ref r2,V.ref p3])=H4 at s4 h4;refine .inr ⟨_,rfl,?_⟩;rw[if_pos (by rw[decide_eq_true_eq];omega)];refine .inr (.inl ⟨p4,_,1,.ref p3,rfl,rfl,SqT.of h4,rfl,?_⟩);have s:=(s1.trans s2).trans (s3.trans s4);exact yJ g2 (ls.same s) tf hbl hn hL (o.same s) fk e2 hw (s4 _ _ h3) (by omega) (by omega) (fun y hy=>hrd y (by rw[ek];exact bG _ hy)) nf hN
theorem tx_75e(g3:G.fn "_law_spoilt" 2=some (yW,[]))(d:Ds Hb a3 a4 a5 l)(ls:LS Hb a3 a4 a5 l xs rs ys L bs H)(tf:TF c n i rs L bs f)(hbl:bs.length<=i)(hi:i<52)(hz:Bd z)
  (nf:ue G K E D Hb a a3 a4 a5 l xs c n i b)(hN:∀σ H,wpB G K E bQ D σ H->D'.nx σ H):
  wpB G K E d7 D' [some (.ref a),some (.int c),some (.int n),some (.ref a3),some (.ref a4),some (.ref a5),some (.int f),x7,x8,x9,some (.ref b),some (.str z),x12,x13,x14,x15] H:=by
 unfold d7;walk_at "wp";refine⟨.inl ⟨rfl,_,SqL.of ls.e5⟩,a5,_,.str z,rfl,rfl,ls.e5,?_,?_⟩
 ·rw[av]
  exact gZ (by omega:bs.length<=52) (by decide)
 unfold gm;walk_at "wp";exact hN _ _ (nf _ _ _ _ _ _ _ _ _ _ _ _ _ (ls.app5 d z) (tf.spoil hz) (by rw[aD];simp;omega) hz.hit)
theorem tx_75(g1:G.fn "_law_cell_at" 2=some (jS K,[]))(g2:G.fn "_law_row" 1=some (uR,[]))(g3:G.fn "_law_spoilt" 2=some (yW,[]))(hs:SqL K Hb a (ns.map V.int))(d:Ds Hb a3 a4 a5 l)(ls:LS Hb a3 a4 a5 l xs rs ys L bs H)(hi:i<52)(hn:n<=59)(tf:TF c n i rs L bs f)(hbl:bs.length<=i)(hm:0<=m)(o:mJ H (.ref b) k)(e1:k.1=nm1 c i)(e2:k.2.length=n)
  (hD:∀σ H,TV Hb a a3 a4 a5 l xs c n (i+1) σ H->D.nx σ H):
  wpB G K E gn D [some (.ref a),some (.int c),some (.int n),some (.ref a3),some (.ref a4),some (.ref a5),some (.int f),x7,x8,some (.int m),some (.ref b),some (.str (bq k)),some (.bl (decide (L.length<40))),x13,x14,x15] H:=by
 have hrd:∀y∈k.2,aK y=true:=let⟨_,_,_,_,_,h⟩:=o;h;have fk:fu k:=⟨by rw[e1];exact nM c i,by omega,hrd⟩;have nf:ue G K E D Hb a a3 a4 a5 l xs c n i b:=fun rs ys L bs f z H x7 x8 x9 x13 x14 x15 ls tf hbl hit=>tx_76 (k:=k) g1 hs d ls hi (by omega) hbl tf (fun h=>nomatch h) (fun _=>hit) hD;have fall:∀H',aN H H'->wpB G K E bQ D [some (.ref a),some (.int c),some (.int n),some (.ref a3),some (.ref a4),some (.ref a5),some (.int f),x7,x8,some (.int m),some (.ref b),some (.str (bq k)),some (.bl (decide (L.length<40))),x13,x14,x15] H':=fun H' s'=>
  tx_76 g1 hs d (ls.same s') hi (by omega) (fz hbl) tf (fun h=>⟨o.same s',rfl,of_decide_eq_true h,e1,e2,hrd⟩) (fun h=>wB fk (tm (je (of_decide_eq_false h)))) hD
 unfold gn;walk_at "wp";refine⟨⟨by decide,by decide⟩,by decide,?_⟩;by_cases h5:m/17%12=5
 ·rw[if_pos (by rw[decide_eq_true_eq];exact h5)]
  refine⟨bf _,fun p hp=>?_⟩;have s1:=az (o:=.lst []) hp;have ep:upd H p (.lst []) p=some (.lst []):=ak;generalize upd H p (.lst [])=H1 at s1 ep;have ls1:=ls.same s1;refine⟨.lst (L.map toD),.lst [],⟨a4,_,rfl,SqL.of ls1.e4,mS ls1.sh⟩,⟨p,[],rfl,SqL.of ep,rfl⟩,?_,_,rfl,?_⟩
  ·show gf (L.map toD)+1<=30
   have :=rA ls1.sh
   omega
  cases hL:L with
  |nil=>
   rw[if_neg (by decide)];refine⟨⟨by decide,by decide⟩,by decide,?_⟩;rw[if_neg (by rw[decide_eq_true_eq];omega)];rw[hL]at fall;exact fall H1 s1
  |cons l0 L0=>
   rw[if_pos (by rfl)];refine⟨⟨by decide,by decide⟩,.inl ⟨a4,_,rfl,.inl (SqL.of ls1.e4),?_⟩⟩;have hlen:=iS ls1.sh;have hpos:0<ys.length:=by rw[hlen,hL];simp
   refine nU.mpr ⟨by omega,?_⟩;have h0:0<=m/204%(ys.length:Int):=bu _ (by omega);have h1:m/204%(ys.length:Int)<ys.length:=bZ _ (by omega);obtain⟨j,hj⟩:=jf h0;rw[hj];have hjl:j<ys.length:=by omega
   obtain⟨l',el,b1,r1,eb1,hb1,hr1,_⟩:=vF (i:=j) (w:=ys[j]) ls1.sh (ah hjl);refine .inl ⟨a4,_,_,ys[j],rfl,rfl,SqL.of ls1.e4,ib (ah hjl),?_⟩;rw[eb1];refine .inr (.inl ⟨b1,_,0,.str l'.1,rfl,rfl,SqT.of hb1,rfl,?_⟩);rw[<-hL];exact tx_752 g2 ls1 tf hbl hn (by rw[hL];simp) (o.same s1) fk e2 (List.mem_map_of_mem (a7 el)) nf (fun _ _ h=>h)
 ·rw[if_neg (by rw[decide_eq_true_eq];exact h5),if_neg (by decide)]
  refine⟨⟨by decide,by decide⟩,by decide,?_⟩;by_cases h7:m/17%12=7
  ·rw[if_pos (by rw[decide_eq_true_eq];exact h7)]
   refine⟨_,_,g3,⟨by decide,by decide⟩,k,m/204,rfl,fk,fun H1 z s1 bz=>?_⟩;exact tx_75e g3 d (ls.same s1) tf hbl hi bz nf (fun _ _ h=>h)
  ·rw[if_neg (by rw[decide_eq_true_eq];exact h7)]
   exact fall H (aN.refl _)
end
noncomputable def spTx(K:aa):Sp:=fun vs H Q _=>∃a,∃ns:List Int,vs=[.ref a]/\SqL K H a (ns.map V.int)/\∀H' p a3 a4 a5 rs ys L bs c n i,∀f:Int,aN H H'->H' p=some (.tup [.ref a3,.int f,.ref a4,.ref a5])->H' a3=some (.lst (rs.map V.str))->H' a4=some (.lst ys)->H' a5=some (.lst (bs.map V.str))->Sh H' ys L->TF c n i rs L bs f->i<=52->Q (.ref p) H'
theorem wp_text{G:Gam}{K:aa}(g1:G.fn "_law_cell_at" 2=some (jS K,[]))(g2:G.fn "_law_row" 1=some (uR,[]))(g3:G.fn "_law_spoilt" 2=some (yW,[]))(g4:G.fn "_law_name" 2=some (mP,[]))(g5:G.fn "_law_mixed" 2=some (qE,[]))(g6:G.fn "_law_readings" 2=some (yX,[])):
  Sat G K (spTx K) oN nO:=by
 rintro vs H Q E ⟨a,ns,rfl,hs,q⟩;unfold oN;change wpB G K _ _ _ [some (.ref a),none,none,none,none,none,none,none,none,none,none,none,none,none,none,none] H;walk_at "wp";refine⟨_,_,g1,a,ns,0,rfl,hs,?_⟩;walk_at "wp";refine⟨⟨by decide,by decide,by decide⟩,by decide,?_⟩;generalize ns.getD 0 0%10^lb 30=c;unfold kP;walk_at "wp";refine⟨⟨by decide,by decide⟩,by decide,?_⟩;refine⟨short (by show 3<=40;decide),fun p0 hp0=>⟨by decide,?_⟩⟩;have h0:0<=c%3:=bu _ (by decide);have h1:c%3<3:=bZ _ (by decide);obtain⟨n,hn,hat⟩:∃n:Nat,n<=59/\atI [V.int (c/3%60),V.int 3,V.int 8] (c%3)=some (.int n):=by
  have h2:0<=c/3%60:=bu _ (by decide);have h3:c/3%60<60:=bZ _ (by decide);have hc:c%3=0\/c%3=1\/c%3=2:=by omega
  rcases hc with e|e|e
  ·refine⟨(c/3%60).toNat,by omega,?_⟩
   rw[e,show(((c/3%60).toNat:Nat):Int)=c/3%60 by omega];exact ib (j:=0) rfl
  ·exact⟨3,by decide,by rw[e];exact ib (j:=1) rfl⟩
  ·exact⟨8,by decide,by rw[e];exact ib (j:=2) rfl⟩
 refine .inl ⟨p0,_,_,_,rfl,rfl,SqL.of ak,hat,?_⟩;have s1:aN H (upd H p0 (.lst [V.int (c/3%60),V.int 3,V.int 8])):=az hp0;generalize upd H p0 (.lst [V.int (c/3%60),V.int 3,V.int 8])=Hb at s1;unfold kO;walk_at "wp";refine⟨bf _,fun a3 ha3=>?_⟩;have t3:=az (o:=.lst []) ha3;have e3:upd Hb a3 (.lst []) a3=some (.lst []):=ak;generalize upd Hb a3 (.lst [])=H3 at t3 e3;unfold kN;walk_at "wp";refine⟨bf _,fun a4 ha4=>?_⟩;have t4:=az (o:=.lst []) ha4;have e4:upd H3 a4 (.lst []) a4=some (.lst []):=ak;have d34:a3≠a4:=fun z=>by rw[z,ha4]at e3;cases e3
 generalize upd H3 a4 (.lst [])=H4 at t4 e4;unfold kM;walk_at "wp";refine⟨bf _,fun a5 ha5=>?_⟩;have t5:=az (o:=.lst []) ha5;have e5:upd H4 a5 (.lst []) a5=some (.lst []):=ak;have e3':=t4 _ _ e3;have d35:a3≠a5:=fun z=>by rw[z,ha5]at e3';cases e3'
 have d45:a4≠a5:=fun z=>by rw[z,ha5]at e4;cases e4
 generalize upd H4 a5 (.lst [])=H5 at t5 e5;unfold kL kK;walk_at "wp";refine rD ?_;walk_at "wp";have t15:=(t3.trans t4).trans t5;refine .inl ⟨a,_,rfl,(s1.trans t15).seq hs,fun l hl=>⟨l,rfl,⟨_,SqL.of ak⟩,?_⟩⟩;have hx:∀(i:Nat) v,(jX (ns.map V.int) (some 2) (some 54))[i]? =some v->∃m:Int,v=.int m:=fun i v e=>by
  have hm:=a7 e;unfold jX at hm;obtain⟨m,_,rfl⟩:=bA.mp (yx (dO hm));exact⟨m,rfl⟩
 have hxl:(jX (ns.map V.int) (some 2) (some 54)).length<=52:=by
  unfold jX;rw[bt,show HT.sIx (ns.map V.int).length (ns.map V.int).length (some 54)=min 54 (ns.map V.int).length from HT.ko _ _ 54,show HT.sIx (ns.map V.int).length 0 (some 2)=min 2 (ns.map V.int).length from HT.ko _ _ 2];omega
 generalize jX (ns.map V.int) (some 2) (some 54)=xs at hx hxl;have t6:=az (o:=.lst xs) hl;have e3'':=t5 _ _ e3';have e4':=t5 _ _ e4;have d:Ds Hb a3 a4 a5 l:=⟨ha3,t3.free ha4,(t3.trans t4).free ha5,d34,d35,d45,(fun z=>by rw[<-z,hl]at e3'';cases e3''),(fun z=>by rw[<-z,hl]at e4';cases e4'),(fun z=>by rw[<-z,hl]at e5;cases e5)⟩;have ls:LS Hb a3 a4 a5 l xs [] [] [] [] (upd H5 l (.lst xs)):=⟨t15.trans t6,t6 _ _ e3'',t6 _ _ e4',t6 _ _ e5,ak,.nil⟩;have tf:TF c n 0 [] [] [] (-1):=⟨⟨by decide,(fun l h=>nomatch h),(fun l h=>nomatch h),by simp,0,by decide,(fun l h=>nomatch h)⟩,(fun l h=>nomatch h),(fun l h=>nomatch h),(fun l h=>nomatch h),(fun l h=>nomatch h),ao _,.inl ⟨rfl,rfl⟩⟩;have hsb:=s1.seq hs;generalize upd H5 l (.lst xs)=H6 at ls;refine Kc.wF sJ (TV Hb a a3 a4 a5 l xs c n) ⟨[],[],[],[],-1,none,none,none,none,none,none,none,none,none,ls,tf,ao _,rfl⟩ (fun i σ H' _ p=>by obtain⟨rs,ys,L,bs,f,x7,x8,x9,x10,x11,x12,x13,x14,x15,ls,_⟩:=p;exact SqL.of ls.el) ?_ ?_
 ·rintro i x σ H7 H8 D2 hi ⟨rs,ys,L,bs,f,x7,x8,x9,x10,x11,x12,x13,x14,x15,ls,tf,hbl,rfl⟩ ⟨p,w,rfl,hp,hw⟩ s8 hD _
  obtain⟨m0,rfl⟩:=hx i w hw;refine⟨p,_,rfl,SqT.of hp,rfl,_,_,rfl,_,_,rfl,rfl,?_⟩;have ls:=ls.same s8;walk_at "wp";refine⟨_,_,g5,m0,i,rfl,by omega,by omega,fun m hm=>?_⟩;unfold i6;walk_at "wp";refine⟨_,_,g4,c,i,rfl,by omega,fun H9 s9=>?_⟩;refine⟨_,_,g6,m,n,rfl,hm,by omega,fun H10 r zs s10 hr0 hr hzl hz=>⟨short (by show 2<=40;decide),fun b hb=>?_⟩⟩;have s11:=(s9.trans s10).trans (az (o:=.tup [.str (nm1 c i),.ref r]) hb);have hb11:upd H10 b (.tup [.str (nm1 c i),.ref r]) b=some (.tup [.str (nm1 c i),.ref r]):=ak;have hr11:upd H10 b (.tup [.str (nm1 c i),.ref r]) r=some (.tup zs):=by rw[aL (ba hr hb)];exact hr
  generalize upd H10 b (.tup [.str (nm1 c i),.ref r])=H11 at s11 hb11 hr11;have ls:=ls.same s11;unfold i5;walk_at "wp";refine⟨_,_,g2,b,r,(nm1 c i,zs),rfl,hb11,hr11,fo (nM c i),by show zs.length<=60;omega,hz,fun H12 s12=>?_⟩;have ls:=ls.same s12;unfold i4;walk_at "wp";refine .inl ⟨a4,_,rfl,.inl (SqL.of ls.e4),?_⟩;refine Ae.mpr ?_;rw[show decide ((ys.length:Int)<40)=decide (L.length<40)from by rw[iS ls.sh,decide_eq_decide];omega];exact tx_75 (k:=(nm1 c i,zs)) g1 g2 g3 hsb d ls (by omega) hn tf hbl hm ⟨b,r,rfl,s12 _ _ hb11,s12 _ _ hr11,hz⟩ rfl hzl hD
 ·rintro σ H7 ⟨rs,ys,L,bs,f,x7,x8,x9,x10,x11,x12,x13,x14,x15,ls,tf,hbl,rfl⟩
  unfold kJ;walk_at "wp";refine⟨short (by show 4<=40;decide),fun p hp=>?_⟩;have s8:=az (o:=.tup [.ref a3,.int f,.ref a4,.ref a5]) hp;have ls8:=ls.same s8;exact q _ p a3 a4 a5 rs ys L bs c n _ f (s1.trans ls8.sm) ak ls8.e3 ls8.e4 ls8.e5 ls8.sh tf hxl
end K13
namespace K13
open PySem R
noncomputable def pw:List Str:=["_law_thing","_law_row_here"]
noncomputable def jE:List Str:=["_law_thing","_law_row_here","_law_caught","e"]
noncomputable def iw:CB:=
  (.cons (.ret (.and (.call "_law_whole" (.cons (.fld (.var 2) "row") .nil)) (.cmp .Eq (.fld (.var 2) "row") (.var 1))))
  .nil)
noncomputable def ix:CB:=
  (.cons (.iff (.or (.bfn .isx (.cons (.var 2) (.cons (.glo "NoReading") .nil))) (.bfn .isx (.cons (.var 2) (.cons (.glo "Twice") .nil))))
  (.cons (.ret (.con (.bool false)))
  .nil)
  .nil)
  iw)
noncomputable def iy:CB:=
  (.cons (.iff (.or (.bfn .isx (.cons (.var 2) (.cons (.glo "Clash") .nil))) (.or (.bfn .isx (.cons (.var 2) (.cons (.glo "NoTable") .nil))) (.bfn .isx (.cons (.var 2) (.cons (.glo "NoName") .nil)))))
  (.cons (.ret (.con (.bool false)))
  .nil)
  .nil)
  ix)
noncomputable def fJ:CB:=
  (.cons (.iff (.or (.not (.bfn .isx (.cons (.var 2) (.cons (.glo "NoText") .nil)))) (.not (.bfn .isx (.cons (.var 2) (.cons (.ty .valueError) .nil)))))
  (.cons (.ret (.con (.bool false)))
  .nil)
  .nil)
  iy)
noncomputable def iz:CB:=
  (.cons (.tryc "KinError" 3
  (.cons (.expr (.call "read" (.cons (.var 0) .nil)))
  .nil)
  (.cons (.asg (.name 2) (.var 3))
  .nil))
  fJ)
noncomputable def jI:CB:=
  (.cons (.asg (.name 2) (.con .none))
  iz)
noncomputable def vb:List Str:=["_law_line","_law_copies"]
noncomputable def nP:List Str:=["_law_line","_law_copies","_law_found"]
noncomputable def oO:CB:=
  (.cons (.asg (.name 2) (.call "read" (.cons (.var 0) .nil)))
  (.cons (.ret (.and (.bfn .isinstance (.cons (.var 2) (.cons (.ty .list) .nil))) (.cmp .Eq (.var 2) (.var 1))))
  .nil))
noncomputable def sW:List Str:=["_law_seed"]
noncomputable def l7:List Str:=["_law_seed","_law_names","_law_rows"]
noncomputable def jJ:CB:=
  (.cons (.ret (.call "_law_refused" (.cons (.join "\n" (.var 2)) (.cons (.con (.int 40)) .nil))))
  .nil)
noncomputable def jK:CB:=
  (.cons (.iff (.not (.call "_law_read" (.cons (.join "\n" (.cut (.var 2) .no (.yes (.con (.int 40))))) (.cons (.comp ["_law_name_here"] [] (.name 0) (.seq (.cut (.var 1) .no (.yes (.con (.int 40))))) .no (.tup (.cons (.var 0) (.cons (.tup (.cons (.con (.int 0)) .nil)) .nil)))) .nil))))
  (.cons (.ret (.con (.bool false)))
  .nil)
  .nil)
  jJ)
noncomputable def jL:CB:=
  (.cons (.asgc 2 (.comp ["_law_name_here"] [] (.name 0) (.seq (.var 1)) .no (.bin .Add (.var 0) (.con (.str " 0")))))
  jK)
noncomputable def mq:CB:=
  (.cons (.asgc 1 (.comp ["_law_k"] [0] (.name 0) (.range1 (.con (.int 41))) .no (.call "_law_name" (.cons (.var 1) (.cons (.var 0) .nil)))))
  jL)
noncomputable def p_law:List Str:=["_law_script"]
noncomputable def z8:List Str:=["_law_script","_law_rows","_law_first","_law_copies","_law_spoilt_here","_law_line","_law_odd","_law_place","_law_text_here"]
noncomputable def tY:CB:=
  (.cons (.ret (.and (.call "_law_refused" (.cons (.var 5) (.cons (.var 2) .nil))) (.call "_law_refused" (.cons (.var 5) (.cons (.var 2) .nil)))))
  .nil)
noncomputable def oQ:CB:=
  (.cons (.iff (.cmp .Lt (.var 2) (.con (.int 0)))
  (.cons (.ret (.and (.call "_law_read" (.cons (.var 5) (.cons (.var 3) .nil))) (.call "_law_read" (.cons (.var 5) (.cons (.var 3) .nil)))))
  .nil)
  .nil)
  tY)
noncomputable def rN:CB:=
  (.cons (.forr (.name 8) (.seq (.var 4))
  (.cons (.iff (.cmp .IsNot (.call "read_row" (.cons (.var 8) .nil)) (.con .none))
  (.cons (.ret (.con (.bool false)))
  .nil)
  .nil)
  .nil))
  oQ)
noncomputable def rO:CB:=
  (.cons (.iff (.or (.cmp .NotEq (.mkf "NoText" (.cons (.con (.str "x")) .nil) "row") (.con (.int 0))) (.cmp .NotEq (.mkf "NoText" (.cons (.con (.str "x")) (.cons (.var 7) .nil)) "row") (.var 7)))
  (.cons (.ret (.con (.bool false)))
  .nil)
  .nil)
  rN)
noncomputable def wM:CB:=
  (.cons (.asg (.name 7) (.bin .Mod (.call "_law_cell_at" (.cons (.var 0) (.cons (.con (.int 1)) .nil))) (.con (.int 1000003))))
  rO)
noncomputable def mV:CB:=
  (.cons (.iff (.or (.not (.call "_law_refused" (.cons (.var 6) (.cons (.con (.int 0)) .nil)))) (.cmp .IsNot (.call "read_row" (.cons (.var 6) .nil)) (.con .none)))
  (.cons (.ret (.con (.bool false)))
  .nil)
  .nil)
  wM)
noncomputable def rP:CB:=
  (.cons (.asg (.name 6) (.idx (.lst (.cons (.con .none) (.cons (.con (.int 5)) (.cons (.lst .nil) (.cons (.lst (.cons (.con (.str "a 0")) .nil)) (.cons (.con (.bool true)) (.cons (.tup (.cons (.con (.str "")) .nil)) .nil))))))) (.bin .Mod (.bin .FloorDiv (.call "_law_cell_at" (.cons (.var 0) (.cons (.con (.int 1)) .nil))) (.con (.int 2))) (.con (.int 6)))))
  mV)
noncomputable def wN:CB:=
  (.cons (.iff (.cmp .Eq (.var 5) (.con (.str "")))
  (.cons (.asg (.name 2) (.un .USub (.con (.int 1))))
  (.cons (.asg (.name 3) (.lst .nil))
  .nil))
  .nil)
  rP)
noncomputable def wO:CB:=
  (.cons (.asg (.name 5) (.join "\n" (.var 1)))
  wN)
noncomputable def wQ:CB:=
  (.cons (.iff (.not (.call "_law_forty" (.cons (.bin .Mod (.call "_law_cell_at" (.cons (.var 0) (.cons (.con (.int 0)) .nil))) (.bin .Pow (.con (.int 10)) (.con (.int 30)))) .nil)))
  (.cons (.ret (.con (.bool false)))
  .nil)
  .nil)
  wO)
noncomputable def AM:CB:=
  (.cons (.asg (.tup (.cons (.name 1) (.cons (.name 2) (.cons (.name 3) (.cons (.name 4) .nil))))) (.call "_law_text" (.cons (.var 0) .nil)))
  wQ)
end K13
namespace K13
open PySem PySem.Spec PyProof.Rows L2 R Cp Lt Lm K02 K11 K12 K91
noncomputable def others:List Str:=["Clash","NoTable","NoName","NoReading","Twice"]
structure Xc(G:Gam)(K:aa)(CE C:Addr):Prop where
 v0:G.val "KinError"=some (.ref CE)
 v1:G.val "NoText"=some (.ref C)
 m:PySem.W.exmOne K (.ref C) (.ref CE)=some true
 o:gE K C=true
 k1:a6 K (.ref C) (.ref C)=some true
 kv:a6 K (.ref C) (.type "ValueError")=some true
 oth:∀x∈others,∃D,G.val x=some (.ref D)/\a6 K (.ref C) (.ref D)=some false
 f:gi K C "row"=true
noncomputable def Refd(H:Hp)(x:V)(n:Nat):Prop:=(Known H x/\cM (tyName H x) "str"=false/\n=0)\/∃z ps L,x=.str z/\jb z ps/\Good L/\pG ps L/\Halt ps L/\n=L.length
noncomputable def ng:Sp:=fun vs H Q _=>∃x,∃n:Nat,vs=[x,.int n]/\Refd H x n/\∀H',aN H H'->Q (.bl true) H'
theorem xT{K:aa}{H:Hp}{a C D dd:Addr}{fs:List (Str×V)}{b:Bool}{Q:VK}(ha:H a=some (iY a (.ref C) (some dd)))(hd:H dd=some (xdO dd fs))(o:gE K C=true)(k:a6 K (.ref C) (.ref D)=some b)(q:Q (.bl b) H):rBf K .isx [.ref a,.ref D] H Q:=
 ⟨a,C,some dd,.ref D,.ref D,b,rfl,ha,(fun dd' e=>by cases e;exact⟨fs,hd⟩),o,.inr ⟨D,rfl,rfl⟩,k,q⟩
theorem isxV{K:aa}{H:Hp}{a C dd:Addr}{fs:List (Str×V)}{T:String}{b:Bool}{Q:VK}(ha:H a=some (iY a (.ref C) (some dd)))(hd:H dd=some (xdO dd fs))(o:gE K C=true)(k:a6 K (.ref C) (.type T)=some b)(q:Q (.bl b) H):rBf K .isx [.ref a,.ty T] H Q:=
 ⟨a,C,some dd,.ty T,.type T,b,rfl,ha,(fun dd' e=>by cases e;exact⟨fs,hd⟩),o,.inl ⟨T,rfl,rfl⟩,k,q⟩
theorem uF{G:Gam}{K:aa}{CE C:Addr}(X:Xc G K CE C)(g1:G.fn "read" 1=some (mO C,[]))(g2:G.fn "_law_whole" 1=some (spB isWhole,[])):
  Sat G K ng jI jE:=by
 rintro vs H Q E ⟨x,n,rfl,h,q⟩;have fin:∀{a dd:Addr}{H1:Hp}{D:Ends},D.rt=Q->aN H H1->H1 a=some (iY a (.ref C) (some dd))->H1 dd=some (xdO dd [("row",.int n)])->wpB G K (fun _=>E) fJ D [some x,some (.int n),some (.ref a),none] H1:=by
  intro a dd H1 D hr s1 ha hd;have mem:∀i:Fin 5,others[i.val]∈others:=fun i=>dj _;obtain⟨d0,v0,k0⟩:=X.oth "Clash" (mem 0);obtain⟨d1,v1,k1⟩:=X.oth "NoTable" (mem 1);obtain⟨d2,v2,k2⟩:=X.oth "NoName" (mem 2);obtain⟨d3,v3,k3⟩:=X.oth "NoReading" (mem 3);obtain⟨d4,v4,k4⟩:=X.oth "Twice" (mem 4);unfold fJ;walk_at "wp";refine⟨_,X.v1,xT ha hd X.o X.k1 ⟨_,rfl,?_⟩⟩;rw[if_neg (by simp)];refine isxV ha hd X.o X.kv ⟨_,rfl,?_⟩;rw[if_neg (by simp)];unfold iy;walk_at "wp";refine⟨_,v0,xT ha hd X.o k0 ⟨_,rfl,?_⟩⟩;rw[if_neg (by simp)];refine⟨_,v1,xT ha hd X.o k1 ⟨_,rfl,?_⟩⟩;rw[if_neg (by simp)];refine⟨_,v2,xT ha hd X.o k2 ⟨_,rfl,?_⟩⟩;rw[if_neg (by simp)];unfold ix;walk_at "wp";refine⟨_,v3,xT ha hd X.o k3 ⟨_,rfl,?_⟩⟩;rw[if_neg (by simp)];refine⟨_,v4,xT ha hd X.o k4 ⟨_,rfl,?_⟩⟩;rw[if_neg (by simp)];unfold iw;walk_at "wp";have fld:∀{H2:Hp}{R:VK},aN H1 H2->R (.int n) H2->rFld K "row" (.ref a) H2 R:=fun s2 hR=>⟨a,C,dd,_,.int n,rfl,s2 _ _ ha,s2 _ _ hd,X.f,by rw[aH];simp,hR⟩;refine⟨_,_,g2,fld (aN.refl _) ⟨.int n,rfl,n8,fun H2 s2=>⟨_,rfl,?_⟩⟩⟩;rw[if_pos (show isWhole (V.int n)=true from rfl)];refine fld s2 (wJ.mpr ?_);rw[hr,decide_eq_true rfl];exact q H2 (s1.trans s2)
 unfold jI iz;change wpB G K _ _ _ [some x,some (.int n),none,none] H;walk_at "wp";refine⟨CE,X.v0,_,_,g1,x,rfl,?_⟩;rcases h with⟨hk,ht,rfl⟩ |⟨z,ps,L,rfl,ht,g,hs,hh,rfl⟩
 ·refine .inl ⟨hk,ht,fun H1 dd s1 hd=>⟨rfl,X.m,fun a ha=>?_⟩⟩
  have ne:dd≠a:=fun e=>by rw[e,ha]at hd;cases hd
  walk_at "wp"
  exact fin rfl (s1.trans (az ha)) ak (by rw[aL ne];exact hd)
 ·refine .inr ⟨z,ps,L,rfl,ht,g,hs,.inr ⟨hh,fun H1 dd s1 hd=>⟨rfl,X.m,fun a ha=>?_⟩⟩⟩
  have ne:dd≠a:=fun e=>by rw[e,ha]at hd;cases hd
  walk_at "wp"
  exact fin rfl (s1.trans (az ha)) ak (by rw[aL ne];exact hd)
noncomputable def nh:Sp:=fun vs H Q _=>∃z b ps L ys,vs=[.str z,.ref b]/\jb z ps/\Good L/\pG ps L/\ps.length=L.length/\H b=some (.lst ys)/\Sh H ys L/\∀H',aN H H'->Q (.bl true) H'
theorem yB{G:Gam}{K:aa}{C:Addr}(g1:G.fn "read" 1=some (mO C,[])):
  Sat G K nh oO nP:=by
 rintro vs H Q E ⟨z,b,ps,L,ys,rfl,ht,g,hs,he,hb,sy,q⟩;unfold oO;change wpB G K _ _ _ [some (.str z),some (.ref b),none] H;walk_at "wp";refine⟨_,_,g1,.str z,rfl,.inr ⟨z,ps,L,rfl,ht,g,hs,.inl ⟨he,fun H1 t us s1 _ ht1 su=>?_⟩⟩⟩;refine An ht1 ⟨_,rfl,?_⟩;rw[if_pos rfl];refine⟨.lst (L.map toD),.lst (L.map toD),⟨t,_,rfl,SqL.of ht1,mS su⟩,⟨b,_,rfl,SqL.of (s1 _ _ hb),mS (sy.same s1)⟩,?_,?_⟩
 ·show gf (L.map toD)+1<=30
  have :=rA su
  omega
 ·rw[tQ]
  exact q H1 s1
theorem qB{rs:List Str}(h:∀z∈rs,z.length<=200/\10∉z.cps.toList)(hl:rs.length<=52)(hn:dW "\n" rs≠""):jb (dW "\n" rs) rs:=by
 have e:dW "\n" rs=dk "\n" rs:=cJ _ _;have h3:(aI "\n":Str).length=1:=by decide+kernel
 have h1:=StrLaws.join_length_le "\n" rs;have h2:∀l:List Str,(∀z∈l,z.length<=200)->(l.map (·.length)).sum<=200*l.length:=by
  intro l
  induction l with
  |nil=>intro _;exact ao _
  |cons x l ih=>
   intro h;have :=ih fun z hz=>h z (aw _ hz);have :=h x aq;rw[bo,lR,aY];omega
 have h2:=h2 rs fun z hz=>(h z hz).1;refine⟨?_,.inr ⟨hn,?_⟩,fun y hy=>(h y hy).1⟩
 ·rw[e]
  rw[h3]at h1;omega
 ·have e0:(aI "\n":Str)=⟨#[10]⟩:=by decide+kernel
  rw[e0];exact jR (fun z=>by rw[z]at hn;exact hn (by decide+kernel)) fun p hp=>(h p hp).2
theorem n9{rs:List Str}(h:∀z∈rs,z.length<=200/\10∉z.cps.toList)(hl:rs.length<=52):(rs.map (·.length)).sum+rs.length<=20000:=by
 have h2:∀l:List Str,(∀z∈l,z.length<=200)->(l.map (·.length)).sum<=200*l.length:=by
  intro l
  induction l with
  |nil=>intro _;exact ao _
  |cons x l ih=>
   intro h;have :=ih fun z hz=>h z (aw _ hz);have :=h x aq;rw[bo,lR,aY];omega
 have h2:=h2 rs fun z hz=>(h z hz).1;omega
noncomputable def cp(c:Int)(k:Nat):Str×List V:=(nm1 c k,[.int 0])
theorem row_cp(c:Int)(k:Nat):nm1 c k++(aI " 0")=bq (cp c k):=by
 unfold bq;rw[show(aI " 0":Str)=aI " "++rdT [.int 0]from by decide+kernel,<-vA];rfl
theorem hW(c:Int)(k:Nat):fu (cp c k):=⟨nM c k,by show 1<=60;decide,fun y hy=>by rw[bc.mp hy];rfl⟩
noncomputable def cps(c:Int)(n:Nat):List (Str×List V):=(aU n).map (cp c)
theorem tR(c:Int):Good (cps c 40):=by
 refine⟨by simp[cps],fun l h=>?_,fun l h=>?_,?_,1,by decide,fun l h=>?_⟩
 ·obtain⟨k,_,rfl⟩:=bA.mp h
  exact(hW c k).nm
 ·obtain⟨k,_,rfl⟩:=bA.mp h
  exact(hW c k).rd
 ·unfold cps
  rw[dY];refine List.Pairwise.map _ (R:=fun i j=>i<40/\j<40/\i≠j) (fun i j ⟨hi,hj,hne⟩ e=>hne (wq (by omega) (by omega) e)) ?_;refine List.Pairwise.imp_of_mem (R:=(·≠·)) (fun{i j} hi hj hne=>⟨gO.mp hi,gO.mp hj,hne⟩) List.nodup_range
 ·obtain⟨k,_,rfl⟩:=bA.mp h
  rfl
theorem fR(c:Int)(n:Nat):(cps c n).length=n:=by simp[cps]
theorem vv{c:Int}{n i:Nat}(h:i<n):(cps c n)[i]? =some (cp c i):=by simp[cps,h]
theorem mQ(c:Int)(n:Nat):∀z∈(cps c n).map bq,z.length<=200/\10∉z.cps.toList:=fun z hz=>by
 obtain⟨l,hl,rfl⟩:=bA.mp hz;obtain⟨k,_,rfl⟩:=bA.mp hl;exact⟨au (lr (hW c k)) (by decide),uW (hW c k)⟩
theorem vS(c:Int){n:Nat}(h:0<n):dW "\n" ((cps c n).map bq)≠"":=text_ne (L:=cps c n) fun z=>by have :=fR c n;rw[z]at this;simp at this;omega
theorem sM(c:Int){m n:Nat}(h:m<=n):pG ((cps c n).map bq) (cps c m):=fun i l hi=>by
 have hlt:=(aE.mp hi).1;rw[fR]at hlt;rw[vv hlt]at hi;cases hi;exact⟨bq (cp c i),by rw[bw,vv (by omega)];rfl,mR (hW c i)⟩
theorem xy(c:Int):Halt ((cps c 41).map bq) (cps c 40):=by
 rw[Halt,fR];exact⟨bq (cp c 40),by rw[bw,vv (by decide)];rfl,.inr ⟨_,mR (hW c 40),tm (by rw[fR];exact ao _)⟩⟩
noncomputable def nms(c:Int)(n:Nat):List V:=(aU n).map fun i=>V.str (nm1 c (i:Nat))
theorem nms_map(c:Int)(n:Nat):nms c n=(aU n).map fun i=>V.str (nm1 c (i:Nat)):=rfl
theorem jm(c:Int)(n:Nat):(nms c n).length=n:=by simp[nms]
theorem z5{c:Int}{n i:Nat}(h:i<n):(nms c n)[i]? =some (.str (nm1 c i)):=by simp[nms,h]
theorem sZ{vs:List V}{n:Nat}{g:Nat->V}(hl:vs.length=n)(h:∀(i:Nat) v,vs[i]? =some v->v=g i):vs=(aU n).map g:=by
 apply fN
 ·simp[hl]
 ·intro i h1 h2
  rw[h i vs[i] (ah h1)];simp
theorem cut40(xs:List V):jX xs none (some 40)=xs.take 40:=by
 unfold jX;rw[HT.km,show HT.sIx xs.length xs.length (some 40)=min 40 xs.length from HT.ko _ _ 40];rw[sk,yp];by_cases h:40<=xs.length
 ·rw[r9 h]
 ·rw[pL (by omega),fM,cE (by omega)]
theorem AG(c:Int):(cps c 41).take 40=cps c 40:=by unfold cps;rw[<-iE,List.take_range];rfl
theorem z4(c:Int):(nms c 41).take 40=nms c 40:=by unfold nms;rw[<-iE,List.take_range];rfl
theorem sh_of{H:Hp}{c:Int}:∀{us:List V}{n:Nat},(∀(i:Nat) v,us[i]? =some v->mJ H v (cp c i))->us.length=n->Sh H us (cps c n):=by
 intro us n
 induction n generalizing us with
 |zero=>intro _ h;rw[cy.mp h];exact .nil
 |succ n ih=>
  intro h hl;rcases yr us with e|⟨vs,v,e⟩
  ·rw[e]at hl;cases hl
  ·rw[List.concat_eq_append]at e
   subst e;have hv:vs.length=n:=by simpa using hl
   have e:cps c (n+1)=cps c n++[cp c n]:=by unfold cps;rw[List.range_succ,cT];rfl
   rw[e];exact wY (ih (fun i w hw=>h i w (by rw[ck (aE.mp hw).1];exact hw)) hv) (h n v (by rw[cf (by omega),hv];simp))
noncomputable def spFo:Sp:=fun vs H Q _=>∃c:Int,vs=[.int c]/\∀H',aN H H'->Q (.bl true) H'
theorem yE{G:Gam}{K:aa}(g1:G.fn "_law_name" 2=some (mP,[]))(g2:G.fn "_law_read" 2=some (nh,[]))(g3:G.fn "_law_refused" 2=some (ng,[])):
  Sat G K spFo mq l7:=by
 rintro vs H Q E ⟨c,rfl,q⟩;unfold mq;change wpB G K _ _ _ [some (.int c),none,none] H;walk_at "wp";refine dD ?_;walk_at "wp";refine⟨(41:Int),rfl,by decide,by decide,?_⟩;refine cV ji (sl (by decide)) (fun _ _=>trivial) (fun i v _=>v=.str (nm1 c i)) (fun _ _ _ _ _ h=>h) (fun τ=>∃t,τ=[t,some (.int c)]) ⟨none,rfl⟩ ?_ ?_
 ·rintro i x τ H3 R hi ⟨t,rfl⟩ s3 rfl k
  walk_at "wp"
  refine⟨_,_,g1,c,i,by simp,by omega,fun H4 s4=>k _ _ _ ⟨_,rfl⟩ s4 rfl⟩
 ·intro vs H2 l hvl hF s2 hl2
  have ev:vs=nms c 41:=by rw[nms_map];exact sZ hvl hF
  subst ev;have s3:=s2.trans (az (o:=.lst (nms c 41)) hl2);have h3:upd H2 l (.lst (nms c 41)) l=_:=ak;generalize upd H2 l (.lst (nms c 41))=H3 at s3 h3;unfold jL;walk_at "wp";refine dD (eJ rfl (SqL.of h3) (cV gR (sl (by rw[jm];decide)) (fun H4 s4=>SqL.of (s4 _ _ h3)) (fun i v _=>v=.str (bq (cp c i))) (fun _ _ _ _ _ h=>h) (fun τ=>∃t,τ=[t]) ⟨none,rfl⟩ ?_ ?_))
  ·rintro i x τ H4 R hi ⟨t,rfl⟩ s4 hx k
   rw[jm]at hi;rw[z5 hi]at hx;cases hx;walk_at "wp";refine⟨sl ?_,?_⟩
   ·have :=fo (nM c i)
    rw[show(aI " 0":Str).length=2 from by decide+kernel];omega
   ·rw[row_cp]
    exact k _ _ _ ⟨_,rfl⟩ (aN.refl _) rfl
  ·intro vs H4 m hvl hF s4 hm
   rw[jm]at hvl;have ev:vs=((cps c 41).map bq).map V.str:=by
    rw[sZ hvl hF];unfold cps;rw[dY,dY];rfl
   subst ev;have s5:=s4.trans (az (o:=.lst (((cps c 41).map bq).map V.str)) hm);have h5:upd H4 m (.lst (((cps c 41).map bq).map V.str)) m=_:=ak;generalize upd H4 m (.lst (((cps c 41).map bq).map V.str))=H5 at s5 h5;have h3':=s5 _ _ h3;have s35:=s3.trans s5;unfold jK;walk_at "wp";refine⟨_,_,g2,rfl,.inl ⟨m,_,rfl,SqL.of h5,fun m2 hm2=>?_⟩⟩;rw[cut40,<-iE,<-iE,AG];have s6:=az (o:=.lst (((cps c 40).map bq).map V.str)) hm2;have h6:upd H5 m2 (.lst (((cps c 40).map bq).map V.str)) m2=_:=ak;generalize upd H5 m2 (.lst (((cps c 40).map bq).map V.str))=H6 at s6 h6;have jl:=n9 (mQ c 40) (by rw[av,fR];decide);refine⟨"\n",m2,_,rfl,rfl,SqL.of h6,by decide+kernel,?_,?_⟩
   ·omega
   refine dD ⟨_,rfl,?_⟩;simp only[mM,vM,tC,V.int.injEq,exists_eq_left'];refine .inl ⟨l,_,rfl,SqL.of (s6 _ _ h3'),fun l2 hl2=>.inl ⟨l2,rfl,⟨_,SqL.of ak⟩,?_⟩⟩;rw[cut40,z4];have s7:=az (o:=.lst (nms c 40)) hl2;have h7:upd H6 l2 (.lst (nms c 40)) l2=_:=ak;generalize upd H6 l2 (.lst (nms c 40))=H7 at s7 h7;refine cV gR (sl (by rw[jm];decide)) (fun H8 s8=>SqL.of (s8 _ _ h7)) (fun i v H=>mJ H v (cp c i)) (fun _ _ _ _ s ⟨b,r,e1,e2,e3,e4⟩=>⟨b,r,e1,s _ _ e2,s _ _ e3,e4⟩) (fun τ=>∃t,τ=[t]) ⟨none,rfl⟩ ?_ ?_
   ·rintro i x τ H8 R hi ⟨t,rfl⟩ s8 hx k
    rw[jm]at hi;rw[z5 hi]at hx;cases hx;walk_at "wp";refine⟨short (by show 1<=40;decide),fun r hr=>⟨short (by show 2<=40;decide),fun b hb=>?_⟩⟩;refine k _ _ _ ⟨_,rfl⟩ ((az hr).trans (az hb)) ⟨b,r,rfl,ak,?_,(hW c i).rd⟩;rw[aL (fun z=>by rw[<-z,ak]at hb;cases hb)];exact ak
   ·intro us H8 m3 hul hU s8 hm3
    rw[jm]at hul;have s9:=az (o:=.lst us) hm3;have h9:upd H8 m3 (.lst us) m3=_:=ak;have su:Sh (upd H8 m3 (.lst us)) us (cps c 40):=(sh_of (fun i v e=>hU i v e) hul).same s9;generalize upd H8 m3 (.lst us)=H9 at s9 h9 su;have s59:=s6.trans (s7.trans (s8.trans s9));refine⟨_,m3,_,cps c 40,us,rfl,qB (mQ c 40) (by rw[av,fR];decide) (vS c (by decide)),tR c,sM c (ao _),by rw[av],h9,su,fun H10 s10=>⟨true,rfl,?_⟩⟩;rw[if_neg (by decide)];have s510:=s59.trans s10;unfold jJ;walk_at "wp";have jl:=n9 (mQ c 41) (by rw[av,fR];decide);refine⟨_,_,g3,rfl,"\n",m,_,rfl,rfl,SqL.of (s510 _ _ h5),by decide+kernel,by omega,?_⟩;refine⟨_,40,rfl,.inr ⟨_,_,cps c 40,rfl,qB (mQ c 41) (by rw[av,fR];decide) (vS c (by decide)),tR c,sM c (by decide),xy c,by rw[fR]⟩,fun H11 s11=>?_⟩;exact q H11 (s35.trans (s510.trans s11))
section
variable {G:Gam}{K:aa}{E:XS}{Q:VK}{D:Ends}{H:Hp}{CE C a a3 a4 a5:Addr}{rs bs:List Str}{ys:List V}{L:List (Str×List V)}{f:Int}{z:Str}{x6 x7 x8:Option V}
noncomputable def Yes(Q:VK):Prop:=∀H,Q (.bl true) H
noncomputable def Ask(H:Hp)(z:Str)(f:Int)(a4:Addr):Prop:=(f= -1/\∃ps L ys,jb z ps/\Good L/\pG ps L/\ps.length=L.length/\H a4=some (.lst ys)/\Sh H ys L)\/∃n:Nat,f=n/\∀H',Refd H' (.str z) n
theorem Ask.same{H':Hp}(h:Ask H z f a4)(s:aN H H'):Ask H' z f a4:=by
 rcases h with⟨e,ps,L,ys,h1,h2,h3,h4,h5,h6⟩ |h
 ·exact .inl ⟨e,ps,L,ys,h1,h2,h3,h4,s _ _ h5,h6.same s⟩
 ·exact .inr h
theorem lw_10(g2:G.fn "_law_read" 2=some (nh,[]))(g3:G.fn "_law_refused" 2=some (ng,[]))(hr:D.rt=Q)(q:Yes Q)(h:Ask H z f a4):
  wpB G K E oQ D [some (.ref a),some (.ref a3),some (.int f),some (.ref a4),some (.ref a5),some (.str z),x6,x7,x8] H:=by
 unfold oQ;walk_at "wp";rcases h with⟨rfl,ps,L,ys,h1,h2,h3,h4,h5,h6⟩ |⟨n,rfl,h⟩
 ·rw[if_pos (by decide)]
  refine⟨_,_,g2,z,a4,ps,L,ys,rfl,h1,h2,h3,h4,h5,h6,fun H1 s1=>⟨true,rfl,?_⟩⟩;rw[if_pos rfl];refine⟨_,_,g2,z,a4,ps,L,ys,rfl,h1,h2,h3,h4,s1 _ _ h5,h6.same s1,fun H2 _=>?_⟩;rw[hr];exact q H2
 ·rw[if_neg (by rw[decide_eq_true_eq];omega)]
  unfold tY;walk_at "wp";refine⟨_,_,g3,.str z,n,rfl,h H,fun H1 s1=>⟨true,rfl,?_⟩⟩;rw[if_pos rfl];refine⟨_,_,g3,.str z,n,rfl,h H1,fun H2 _=>?_⟩;rw[hr];exact q H2
theorem lw_9(g1:G.fn "read_row" 1=some (ll,[]))(g2:G.fn "_law_read" 2=some (nh,[]))(g3:G.fn "_law_refused" 2=some (ng,[]))(hr:D.rt=Q)(q:Yes Q)(h:Ask H z f a4)(hb:H a5=some (.lst (bs.map V.str)))(bd:∀z∈bs,Bd z):
  wpB G K E rN D [some (.ref a),some (.ref a3),some (.int f),some (.ref a4),some (.ref a5),some (.str z),x6,x7,x8] H:=by
 unfold rN;walk_at "wp";refine rD (eJ rfl (SqL.of hb) (Kc.wF gR (fun i σ H'=>aN H H'/\∃x8,σ=[some (.ref a),some (.ref a3),some (.int f),some (.ref a4),some (.ref a5),some (.str z),x6,x7,x8]) ⟨aN.refl _,_,rfl⟩ (fun i σ H' _ p=>SqL.of (p.1 _ _ hb)) ?_ ?_))
 ·rintro i x σ H1 H2 D2 hi ⟨s1,x8,rfl⟩ hx s2 hD _
  rw[bw]at hx;obtain⟨y,e1,rfl⟩:=eT.mp hx;have by':=bd y (a7 e1);walk_at "wp";refine⟨_,_,g1,.str y,rfl,.inl ⟨y,rfl,au by'.len (by decide),fun _ H3 s3=>?_,fun l e=>by rw[by'.no]at e;cases e⟩⟩;show if(!decide (V.non=V.non))=true then _ else _
  rw[if_neg (by simp)];exact hD _ _ ⟨(s1.trans s2).trans s3,_,rfl⟩
 ·rintro σ H1 ⟨s1,x8,rfl⟩
  exact lw_10 g2 g3 hr q (h.same s1)
theorem mkrow{R:VK}{w:Str}{v:V}{E':XK}(fl:gi K C "row"=true)(k:∀H',aN H H'->R v H'):∀b,H b=none->hJ C [.ref b,.str w,v] (upd H b (exO b C none)) (fun v' H2=>v'=.non/\∃b' dd fs w',V.ref b=.ref b'/\H2 b'=some (exO b' C (some dd))/\H2 dd=some (xdO dd fs)/\gi K C "row"=true/\fs.lookup (aI "row")=some w'/\R w' H2) E':=by
 intro b hb;refine⟨b,w,v,rfl,ak,fun dd hd=>⟨rfl,b,dd,[("row",v)],v,rfl,ak,?_,fl,by rw[aH];simp,k _ ?_⟩⟩
 ·have ne:dd≠b:=fun e=>by rw[e,ak]at hd;cases hd
  rw[aL ne];exact ak
 ·exact gS ((gS (aN.refl _) hb).trans (az hd)) hb
theorem lw_8(fl:gi K C "row"=true)(i1:G.ini "NoText" 1=some (C,hJ C,[.int 0]))(i2:G.ini "NoText" 2=some (C,hJ C,[]))(g1:G.fn "read_row" 1=some (ll,[]))(g2:G.fn "_law_read" 2=some (nh,[]))(g3:G.fn "_law_refused" 2=some (ng,[]))(hr:D.rt=Q)(q:Yes Q)(h:Ask H z f a4)(hb:H a5=some (.lst (bs.map V.str)))(bd:∀z∈bs,Bd z){m:Int}:
  wpB G K E rO D [some (.ref a),some (.ref a3),some (.int f),some (.ref a4),some (.ref a5),some (.str z),x6,some (.int m),x8] H:=by
 unfold rO;walk_at "wp";refine⟨C,_,_,i1,?_⟩;unfold tMkf;walk_at "wp";refine⟨short (by show 1<=40;decide),mkrow fl fun H1 s1=>tu.mpr ⟨_,rfl,?_⟩⟩;rw[if_neg (by simp)];refine⟨C,_,_,i2,short (by show 2<=40;decide),mkrow fl fun H2 s2=>tu.mpr ⟨_,rfl,?_⟩⟩;rw[if_neg (by simp)];have s12:=s1.trans s2;exact lw_9 g1 g2 g3 hr q (h.same s12) (s12 _ _ hb) bd
structure Gs(G:Gam)(K:aa)(C:Addr):Prop where
 fl:gi K C "row"=true
 i1:G.ini "NoText" 1=some (C,hJ C,[.int 0])
 i2:G.ini "NoText" 2=some (C,hJ C,[])
 g0:G.fn "_law_cell_at" 2=some (jS K,[])
 g1:G.fn "read_row" 1=some (ll,[])
 g2:G.fn "_law_read" 2=some (nh,[])
 g3:G.fn "_law_refused" 2=some (ng,[])
variable {ns:List Int}
theorem lw_6(g:Gs G K C)(hs:SqL K H a (ns.map V.int))(hr:D.rt=Q)(q:Yes Q)(h:Ask H z f a4)(hb:H a5=some (.lst (bs.map V.str)))(bd:∀z∈bs,Bd z){x:V}(hk:Known H x)(hx:cM (tyName H x) "str"=false):
  wpB G K E mV D [some (.ref a),some (.ref a3),some (.int f),some (.ref a4),some (.ref a5),some (.str z),some x,x7,x8] H:=by
 unfold mV;walk_at "wp";refine⟨_,_,g.g3,x,0,rfl,.inl ⟨hk,hx,rfl⟩,fun H1 s1=>⟨true,rfl,?_⟩⟩;rw[if_neg (by decide)];obtain⟨hk1,ht1⟩:=hk.same s1;refine⟨_,_,g.g1,x,rfl,.inr ⟨hk1,by rw[ht1];exact hx,?_⟩⟩;show if(!decide (V.non=V.non))=true then _ else _
 rw[if_neg (by simp)];unfold wM;walk_at "wp";refine⟨_,_,g.g0,a,ns,1,rfl,s1.seq hs,nU.mpr ⟨by decide,?_⟩⟩;exact lw_8 g.fl g.i1 g.i2 g.g1 g.g2 g.g3 hr q (h.same s1) (s1 _ _ hb) bd
theorem lw_5(g:Gs G K C)(hs:SqL K H a (ns.map V.int))(hr:D.rt=Q)(q:Yes Q)(h:Ask H z f a4)(hb:H a5=some (.lst (bs.map V.str)))(bd:∀z∈bs,Bd z):
  wpB G K E rP D [some (.ref a),some (.ref a3),some (.int f),some (.ref a4),some (.ref a5),some (.str z),x6,x7,x8] H:=by
 unfold rP;walk_at "wp";refine⟨bf _,fun p1 hp1=>⟨short (by show 1<=40;decide),fun p2 hp2=>⟨short (by show 1<=40;decide),fun p3 hp3=>⟨short (by show 6<=40;decide),fun p4 hp4=>?_⟩⟩⟩⟩;have s1:=az (o:=.lst []) hp1;have h1:upd H p1 (.lst []) p1=some (.lst []):=ak;generalize upd H p1 (.lst [])=H1 at s1 h1 hp2 hp3 hp4;have s2:=az (o:=.lst [V.str (aI "a 0")]) hp2;have h2:upd H1 p2 (.lst [V.str (aI "a 0")]) p2=_:=ak;generalize upd H1 p2 (.lst [V.str (aI "a 0")])=H2 at s2 h2 hp3 hp4;have s3:=az (o:=.tup [V.str (aI "")]) hp3;have h3:upd H2 p3 (.tup [V.str (aI "")]) p3=_:=ak;generalize upd H2 p3 (.tup [V.str (aI "")])=H3 at s3 h3 hp4;have s4:=az (o:=.lst [V.non,V.int 5,V.ref p1,V.ref p2,V.bl true,V.ref p3]) hp4;have h4:upd H3 p4 (.lst [V.non,V.int 5,V.ref p1,V.ref p2,V.bl true,V.ref p3]) p4=_:=ak;generalize upd H3 p4 (.lst [V.non,V.int 5,V.ref p1,V.ref p2,V.bl true,V.ref p3])=H4 at s4 h4;have s14:=(s1.trans s2).trans (s3.trans s4);refine⟨_,_,g.g0,a,ns,1,rfl,s14.seq hs,div_ii.mpr ⟨⟨by decide,by decide⟩,nU.mpr ⟨by decide,?_⟩⟩⟩;have go:∀{x:V},Known H4 x->cM (tyName H4 x) "str"=false->wpB G K E mV D [some (.ref a),some (.ref a3),some (.int f),some (.ref a4),some (.ref a5),some (.str z),some x,x7,x8] H4:=fun hk hx=>
  lw_6 g (s14.seq hs) hr q (h.same s14) (s14 _ _ hb) bd hk hx
 have e1:=s4 _ _ (s3 _ _ (s2 _ _ h1));have e2:=s4 _ _ (s3 _ _ h2);have e3:=s4 _ _ h3;have hc:ns.getD 1 0/2%6=0\/ns.getD 1 0/2%6=1\/ns.getD 1 0/2%6=2\/ns.getD 1 0/2%6=3\/ns.getD 1 0/2%6=4\/ns.getD 1 0/2%6=5:=by omega
 rcases hc with e|e|e|e|e|e<;>rw[e]
 ·exact .inl ⟨p4,_,0,.non,rfl,rfl,SqL.of h4,rfl,go kn_non rfl⟩
 ·exact .inl ⟨p4,_,1,.int 5,rfl,rfl,SqL.of h4,rfl,go n8 rfl⟩
 ·exact .inl ⟨p4,_,2,.ref p1,rfl,rfl,SqL.of h4,rfl,go (rq e1) (by show cM (dB (H4 p1)) "str"=false;rw[e1];rfl)⟩
 ·exact .inl ⟨p4,_,3,.ref p2,rfl,rfl,SqL.of h4,rfl,go (rq e2) (by show cM (dB (H4 p2)) "str"=false;rw[e2];rfl)⟩
 ·exact .inl ⟨p4,_,4,.bl true,rfl,rfl,SqL.of h4,rfl,go kn_bl rfl⟩
 ·exact .inl ⟨p4,_,5,.ref p3,rfl,rfl,SqL.of h4,rfl,go (rm e3) (by show cM (dB (H4 p3)) "str"=false;rw[e3];rfl)⟩
noncomputable def qF(K:aa):Sp:=fun vs H Q _=>∃(a:Addr)(ns:List Int),vs=[.ref a]/\SqL K H a (ns.map V.int)/\ns.length<=63/\∀H',Q (.bl true) H'
theorem wp_law(g:Gs G K C)(g4:G.fn "_law_text" 1=some (spTx K,[]))(g5:G.fn "_law_forty" 1=some (spFo,[])):
  Sat G K (qF K) AM z8:=by
 rintro vs H Q E ⟨a,ns,rfl,hs,hl63,q⟩;unfold AM;change wpB G K _ _ _ [some (.ref a),none,none,none,none,none,none,none,none] H;walk_at "wp";refine⟨_,_,g4,a,ns,rfl,hs,fun H1 p a3 a4 a5 rs ys L bs c n i f s1 hp e3 e4 e5 sh tf hi=>?_⟩;refine⟨p,_,rfl,SqT.of hp,rfl,_,_,rfl,_,_,rfl,_,_,rfl,_,_,rfl,rfl,?_⟩;unfold wQ;walk_at "wp";refine⟨_,_,g5,_,_,g.g0,a,ns,0,rfl,s1.seq hs,?_⟩;walk_at "wp";refine⟨⟨by decide,by decide,by decide⟩,by decide,_,rfl,fun H2 s2=>⟨true,rfl,?_⟩⟩;rw[if_neg (by decide)];have e3:=s2 _ _ e3;have e4:=s2 _ _ e4;have e5:=s2 _ _ e5;have sh:=sh.same s2;have hs:=(s1.trans s2).seq hs;have hrl:rs.length<=52:=au tf.rl hi;have jl:=n9 tf.row hrl;unfold wO;walk_at "wp";refine⟨rfl,"\n",a3,rs,rfl,rfl,SqL.of e3,by decide+kernel,by omega,?_⟩;unfold wN;walk_at "wp";by_cases hz:dW "\n" rs=""
 ·rw[if_pos (by rw[decide_eq_true_eq];exact hz)]
  refine⟨bf _,fun a4' ha4=>?_⟩;have s3:=az (o:=.lst []) ha4;refine lw_5 g (s3.seq hs) rfl q (.inl ⟨rfl,[],[],[],⟨by rw[hz];decide+kernel,.inl ⟨hz,rfl⟩,fun y h=>nomatch h⟩,⟨by decide,(fun l h=>nomatch h),(fun l h=>nomatch h),by simp,0,by decide,(fun l h=>nomatch h)⟩,fun i l h=>by simp at h,rfl,ak,.nil⟩) (s3 _ _ e5) tf.bd
 ·rw[if_neg (by rw[decide_eq_true_eq];exact hz)]
  refine lw_5 g hs rfl q ?_ e5 tf.bd;have tr:=qB tf.row hrl hz;rcases tf.st with⟨h1,h2⟩ |⟨L0,h1,h2,h3,h4⟩
  ·exact .inl ⟨h1,rs,L,ys,tr,tf.gd,by rw[h2];exact sL tf.gd,by rw[h2,av],e4,sh⟩
  ·exact .inr ⟨L0.length,h1,fun H'=>.inr ⟨_,rs,L0,rfl,tr,h2,h3,h4,rfl⟩⟩
end
end K13
namespace K13
open PySem PySem.Spec PySem.Calls PyProof.Rows L2 R Cp Lt Lm K12
theorem wC(w:World)(x:Str):ag w.params x=hashStr w x:=rfl
theorem figs_mk{P:Program}{w:World}{K:aa}{F:Addr}{t0 t1 t2 t3:Tok}{n:Nat}(h0:(F==kW)=false)
  (l:K.lookup F=some ⟨.type "dict",none,.dict #[⟨ag w.params "0",.str "0" t0,.int 0 t1⟩,⟨ag w.params "1",.str "1" t2,.int 1 t3⟩] n,#[]⟩):yk P w K F mG:=by
 refine⟨h0,[(.inr "0",.int 0 t1),(.inr "1",.int 1 t3)],.cons ⟨rfl,t1,rfl⟩ (.cons ⟨rfl,t3,rfl⟩ .nil),fun h X=>⟨_,_,_,X _ _ l,⟨rfl,rfl,rfl⟩,rfl,?_,?_,?_⟩⟩
 ·intro e he
  simp only[List.mem_toArray,aA,bh,or_false]at he;rcases he with rfl|rfl
  ·exact⟨.inr "0",rfl,show ag w.params "0"=hashStr w "0" from wC w _⟩
  ·exact⟨.inr "1",rfl,show ag w.params "1"=hashStr w "1" from wC w _⟩
 ·exact .cons rfl rfl (.cons rfl rfl .nil)
 ·show([(.inr "0"),(.inr "1")]:List Key).Nodup
  decide+kernel
theorem vo{K:aa}{T:Addr}{kV doc pm cdv ct:Value}{an od:Option Addr}{n:Nat}{t:Tok}{sl:Array (Option Value)}(l:K.lookup T=some ⟨.type "tuple",od,.seq #[.int 0 t] n,sl⟩):
  Binds K (aC "__init__" "NoText.__init__" (bb (dt 2 0)) (aZ (dt 2 0)) (aJ (dt 2 0)) (.ref T) kV doc pm an cdv ct) eV []:=fun s us X hl=>by
 rw[qA]at hl⊢;obtain⟨_,_,_,rfl⟩:=Kc.yO hl;exact PySem.W.binds_K X rfl l rfl rfl rfl
theorem tL{K:aa}{T:Addr}{kV doc pm cdv ct:Value}{an od:Option Addr}{n:Nat}{t:Tok}{sl:Array (Option Value)}(l:K.lookup T=some ⟨.type "tuple",od,.seq #[.int 0 t] n,sl⟩):
  Binds K (aC "__init__" "NoText.__init__" (bb (dt 2 0)) (aZ (dt 2 0)) (aJ (dt 2 0)) (.ref T) kV doc pm an cdv ct) eV [.int 0 t]:=fun s us X hl=>by
 rw[aD]at hl;obtain⟨_,_,rfl⟩:=Kc.hG (us:=us) (k9 hl);exact PySem.W.binds_K X rfl l rfl rfl rfl
theorem init_ok:(nJ eW eV (aJ (dt 2 0))&&i3 (aJ (dt 2 0)) eW fg (aZ (dt 2 0)))=true:=by decide+kernel
set_option maxHeartbeats 0
noncomputable def oj(P:PySem.Params):aa:=
 (nat_lit 2,⟨.none,none,(.dict #[] 0),#[]⟩)::
 (nat_lit 3,⟨.type "dict",none,(.dict #[⟨ag P "__name__",.str "__name__" 165,.str "law_copykin_k13_whole_any_rows" 418⟩,⟨ag P "__doc__",.str "__doc__" 166,.none⟩,⟨ag P "__package__",.str "__package__" 167,.none⟩,⟨ag P "__loader__",.str "__loader__" 168,.builtin "__main__.__loader__#opaque"⟩,⟨ag P "__spec__",.str "__spec__" 169,.none⟩,⟨ag P "__annotations__",.str "__annotations__" 170,.ref 6⟩,⟨ag P "__builtins__",.str "__builtins__" 171,.ref 4⟩,⟨ag P "__file__",.str "__file__" 173,.str "/claim/cut.py" 172⟩,⟨ag P "__cached__",.str "__cached__" 174,.none⟩,⟨ag P "KinError",.str "KinError" 206,.ref 24⟩,⟨ag P "NoText",.str "NoText" 233,.ref 45⟩,⟨ag P "Clash",.str "Clash" 262,.ref 64⟩,⟨ag P "NoTable",.str "NoTable" 278,.ref 76⟩,⟨ag P "NoName",.str "NoName" 294,.ref 88⟩,⟨ag P "NoReading",.str "NoReading" 310,.ref 100⟩,⟨ag P "Twice",.str "Twice" 326,.ref 112⟩,⟨ag P "LETTERS",.str "LETTERS" 330,.str "abcdefghijklmnopqrstuvwxyz" 329⟩,⟨ag P "LONGEST_NAME",.str "LONGEST_NAME" 332,.int 8 331⟩,⟨ag P "MOST_PLACES",.str "MOST_PLACES" 334,.int 60 333⟩,⟨ag P "MOST_COPIES",.str "MOST_COPIES" 336,.int 40 335⟩,⟨ag P "is_whole",.str "is_whole" 343,.ref 121⟩,⟨ag P "is_name",.str "is_name" 349,.ref 126⟩,⟨ag P "is_reading",.str "is_reading" 356,.ref 133⟩,⟨ag P "are_readings",.str "are_readings" 362,.ref 138⟩,⟨ag P "is_copy",.str "is_copy" 369,.ref 145⟩,⟨ag P "is_table",.str "is_table" 375,.ref 150⟩,⟨ag P "FIGURES",.str "FIGURES" 384,.ref 151⟩,⟨ag P "read_readings",.str "read_readings" 390,.ref 156⟩,⟨ag P "read_row",.str "read_row" 399,.ref 163⟩,⟨ag P "rows_of",.str "rows_of" 406,.ref 170⟩,⟨ag P "read",.str "read" 417,.ref 177⟩,⟨ag P "_law_cell_at",.str "_law_cell_at" 427,.ref 184⟩,⟨ag P "_law_whole",.str "_law_whole" 434,.ref 191⟩,⟨ag P "_law_mixed",.str "_law_mixed" 442,.ref 198⟩,⟨ag P "_law_name",.str "_law_name" 455,.ref 205⟩,⟨ag P "_law_readings",.str "_law_readings" 461,.ref 210⟩,⟨ag P "_law_table",.str "_law_table" 473,.ref 217⟩,⟨ag P "_law_row",.str "_law_row" 479,.ref 222⟩,⟨ag P "_law_spoilt",.str "_law_spoilt" 488,.ref 229⟩,⟨ag P "_law_text",.str "_law_text" 510,.ref 236⟩,⟨ag P "_law_refused",.str "_law_refused" 520,.ref 243⟩,⟨ag P "_law_read",.str "_law_read" 529,.ref 250⟩,⟨ag P "_law_forty",.str "_law_forty" 535,.ref 255⟩,⟨ag P "law",.str "law" 550,.ref 262⟩] 44),#[]⟩)::
 (nat_lit 23,⟨.type "dict",none,(.dict #[⟨ag P "__module__",.str "__module__" 196,.str "copykin.errors" 187⟩,⟨ag P "__firstlineno__",.str "__firstlineno__" 200,.int 2 199⟩,⟨ag P "__static_attributes__",.str "__static_attributes__" 201,.ref 22⟩,⟨ag P "__weakref__",.str "__weakref__" 203,.ref 25⟩,⟨ag P "__doc__",.str "__doc__" 204,.none⟩] 3),#[]⟩)::
 (nat_lit 24,⟨.type "type",none,(.cls {name:="KinError",bases:=[.type "ValueError"],mro:=[.ref 24,.type "ValueError",.type "Exception",.type "BaseException",.type "object"],ns:=23,qualname:="KinError",hasDict:=true,slotNames:=[],subclasses:=[.ref 45,.ref 64,.ref 76,.ref 88,.ref 100,.ref 112],abstract:=false,collection:=none,hasDel:=false}),#[(some (.ref 15)),none,(some (.str "KinError" 189)),(some (.str "KinError" 197)),(some (.builtin "ValueError.__new__")),(some (.bool true))]⟩)::
 (nat_lit 35,⟨.type "tuple",none,(.seq #[.int 0 219] 0),#[]⟩)::
 (nat_lit 41,⟨.type "code",none,(.fields #[.str "__init__" 220,.str "NoText.__init__" 221,.str "/claim/cut.py" 222,.int 6 0,.int 3 0,.int 0 0,.int 0 0,.int 3 0,.ref 36,.bool true,.int 181 0,.ref 37,.none,.ref 38,.ref 39,.ref 40,.int 226 0,.int 6 0,.str "/claim/cut.py" 227]),#[]⟩)::
 (nat_lit 42,⟨.type "function",none,(.func (aC "__init__" "NoText.__init__" (bb (dt 2 0)) (aZ (dt 2 0)) (aJ (dt 2 0)) (.ref 35) .none .none (.str "copykin.errors" 187) none (.ref 41) .none)),#[]⟩)::
 (nat_lit 44,⟨.type "dict",none,(.dict #[⟨ag P "__module__",.str "__module__" 214,.str "copykin.errors" 187⟩,⟨ag P "__firstlineno__",.str "__firstlineno__" 218,.int 4 217⟩,⟨ag P "__init__",.str "__init__" 228,.ref 42⟩,⟨ag P "__static_attributes__",.str "__static_attributes__" 230,.ref 43⟩,⟨ag P "__doc__",.str "__doc__" 231,.none⟩] 2),#[]⟩)::
 (nat_lit 45,⟨.type "type",none,(.cls {name:="NoText",bases:=[.ref 24],mro:=[.ref 45,.ref 24,.type "ValueError",.type "Exception",.type "BaseException",.type "object"],ns:=44,qualname:="NoText",hasDict:=true,slotNames:=[],subclasses:=[],abstract:=false,collection:=none,hasDel:=false}),#[(some (.ref 28)),none,(some (.str "NoText" 207)),(some (.str "NoText" 215)),(some (.builtin "ValueError.__new__")),(some (.bool true))]⟩)::
 (nat_lit 60,⟨.type "code",none,(.fields #[.str "__init__" 246,.str "Clash.__init__" 247,.str "/claim/cut.py" 248,.int 11 0,.int 4 0,.int 0 0,.int 0 0,.int 3 0,.ref 55,.bool true,.int 181 0,.ref 56,.none,.ref 57,.ref 58,.ref 59,.int 253 0,.int 11 0,.str "/claim/cut.py" 254]),#[]⟩)::
 (nat_lit 61,⟨.type "function",none,(.func (aC "__init__" "Clash.__init__" (bb (dt 3 0)) (aZ (dt 3 0)) (aJ (dt 3 0)) .none .none .none (.str "copykin.errors" 187) none (.ref 60) .none)),#[]⟩)::
 (nat_lit 63,⟨.type "dict",none,(.dict #[⟨ag P "__module__",.str "__module__" 241,.str "copykin.errors" 187⟩,⟨ag P "__firstlineno__",.str "__firstlineno__" 245,.int 9 244⟩,⟨ag P "__init__",.str "__init__" 255,.ref 61⟩,⟨ag P "__static_attributes__",.str "__static_attributes__" 259,.ref 62⟩,⟨ag P "__doc__",.str "__doc__" 260,.none⟩] 2),#[]⟩)::
 (nat_lit 64,⟨.type "type",none,(.cls {name:="Clash",bases:=[.ref 24],mro:=[.ref 64,.ref 24,.type "ValueError",.type "Exception",.type "BaseException",.type "object"],ns:=63,qualname:="Clash",hasDict:=true,slotNames:=[],subclasses:=[],abstract:=false,collection:=none,hasDel:=false}),#[(some (.ref 48)),none,(some (.str "Clash" 234)),(some (.str "Clash" 242)),(some (.builtin "ValueError.__new__")),(some (.bool true))]⟩)::
 (nat_lit 75,⟨.type "dict",none,(.dict #[⟨ag P "__module__",.str "__module__" 270,.str "copykin.errors" 187⟩,⟨ag P "__firstlineno__",.str "__firstlineno__" 274,.int 16 273⟩,⟨ag P "__static_attributes__",.str "__static_attributes__" 275,.ref 74⟩,⟨ag P "__doc__",.str "__doc__" 276,.none⟩] 2),#[]⟩)::
 (nat_lit 76,⟨.type "type",none,(.cls {name:="NoTable",bases:=[.ref 24],mro:=[.ref 76,.ref 24,.type "ValueError",.type "Exception",.type "BaseException",.type "object"],ns:=75,qualname:="NoTable",hasDict:=true,slotNames:=[],subclasses:=[],abstract:=false,collection:=none,hasDel:=false}),#[(some (.ref 67)),none,(some (.str "NoTable" 263)),(some (.str "NoTable" 271)),(some (.builtin "ValueError.__new__")),(some (.bool true))]⟩)::
 (nat_lit 87,⟨.type "dict",none,(.dict #[⟨ag P "__module__",.str "__module__" 286,.str "copykin.errors" 187⟩,⟨ag P "__firstlineno__",.str "__firstlineno__" 290,.int 18 289⟩,⟨ag P "__static_attributes__",.str "__static_attributes__" 291,.ref 86⟩,⟨ag P "__doc__",.str "__doc__" 292,.none⟩] 2),#[]⟩)::
 (nat_lit 88,⟨.type "type",none,(.cls {name:="NoName",bases:=[.ref 24],mro:=[.ref 88,.ref 24,.type "ValueError",.type "Exception",.type "BaseException",.type "object"],ns:=87,qualname:="NoName",hasDict:=true,slotNames:=[],subclasses:=[],abstract:=false,collection:=none,hasDel:=false}),#[(some (.ref 79)),none,(some (.str "NoName" 279)),(some (.str "NoName" 287)),(some (.builtin "ValueError.__new__")),(some (.bool true))]⟩)::
 (nat_lit 99,⟨.type "dict",none,(.dict #[⟨ag P "__module__",.str "__module__" 302,.str "copykin.errors" 187⟩,⟨ag P "__firstlineno__",.str "__firstlineno__" 306,.int 20 305⟩,⟨ag P "__static_attributes__",.str "__static_attributes__" 307,.ref 98⟩,⟨ag P "__doc__",.str "__doc__" 308,.none⟩] 2),#[]⟩)::
 (nat_lit 100,⟨.type "type",none,(.cls {name:="NoReading",bases:=[.ref 24],mro:=[.ref 100,.ref 24,.type "ValueError",.type "Exception",.type "BaseException",.type "object"],ns:=99,qualname:="NoReading",hasDict:=true,slotNames:=[],subclasses:=[],abstract:=false,collection:=none,hasDel:=false}),#[(some (.ref 91)),none,(some (.str "NoReading" 295)),(some (.str "NoReading" 303)),(some (.builtin "ValueError.__new__")),(some (.bool true))]⟩)::
 (nat_lit 111,⟨.type "dict",none,(.dict #[⟨ag P "__module__",.str "__module__" 318,.str "copykin.errors" 187⟩,⟨ag P "__firstlineno__",.str "__firstlineno__" 322,.int 22 321⟩,⟨ag P "__static_attributes__",.str "__static_attributes__" 323,.ref 110⟩,⟨ag P "__doc__",.str "__doc__" 324,.none⟩] 2),#[]⟩)::
 (nat_lit 112,⟨.type "type",none,(.cls {name:="Twice",bases:=[.ref 24],mro:=[.ref 112,.ref 24,.type "ValueError",.type "Exception",.type "BaseException",.type "object"],ns:=111,qualname:="Twice",hasDict:=true,slotNames:=[],subclasses:=[],abstract:=false,collection:=none,hasDel:=false}),#[(some (.ref 103)),none,(some (.str "Twice" 311)),(some (.str "Twice" 319)),(some (.builtin "ValueError.__new__")),(some (.bool true))]⟩)::
 (nat_lit 120,⟨.type "code",none,(.fields #[.str "is_whole" 337,.str "is_whole" 338,.str "/claim/cut.py" 339,.int 29 0,.int 1 0,.int 0 0,.int 0 0,.int 3 0,.ref 115,.bool true,.int 181 0,.ref 116,.none,.ref 117,.ref 118,.ref 119,.int 341 0,.int 29 0,.str "/claim/cut.py" 342]),#[]⟩)::
 (nat_lit 121,⟨.type "function",none,(.func (aC "is_whole" "is_whole" (bb (top 13)) (aZ (top 13)) (aJ (top 13)) .none .none .none (.str "copykin.tables" 327) none (.ref 120) .none)),#[]⟩)::
 (nat_lit 125,⟨.type "code",none,(.fields #[.str "is_name" 344,.str "is_name" 345,.str "/claim/cut.py" 346,.int 31 0,.int 1 0,.int 0 0,.int 0 0,.int 3 0,.ref 122,.bool true,.int 181 0,.ref 123,.none,.none,.none,.ref 124,.int 347 0,.int 31 0,.str "/claim/cut.py" 348]),#[]⟩)::
 (nat_lit 126,⟨.type "function",none,(.func (aC "is_name" "is_name" (bb (top 14)) (aZ (top 14)) (aJ (top 14)) .none .none .none (.str "copykin.tables" 327) none (.ref 125) .none)),#[]⟩)::
 (nat_lit 132,⟨.type "code",none,(.fields #[.str "is_reading" 350,.str "is_reading" 351,.str "/claim/cut.py" 352,.int 37 0,.int 1 0,.int 0 0,.int 0 0,.int 3 0,.ref 127,.bool true,.int 181 0,.ref 128,.none,.ref 129,.ref 130,.ref 131,.int 354 0,.int 37 0,.str "/claim/cut.py" 355]),#[]⟩)::
 (nat_lit 133,⟨.type "function",none,(.func (aC "is_reading" "is_reading" (bb (top 15)) (aZ (top 15)) (aJ (top 15)) .none .none .none (.str "copykin.tables" 327) none (.ref 132) .none)),#[]⟩)::
 (nat_lit 137,⟨.type "code",none,(.fields #[.str "are_readings" 357,.str "are_readings" 358,.str "/claim/cut.py" 359,.int 39 0,.int 1 0,.int 0 0,.int 0 0,.int 3 0,.ref 134,.bool true,.int 181 0,.ref 135,.none,.none,.none,.ref 136,.int 360 0,.int 39 0,.str "/claim/cut.py" 361]),#[]⟩)::
 (nat_lit 138,⟨.type "function",none,(.func (aC "are_readings" "are_readings" (bb (top 16)) (aZ (top 16)) (aJ (top 16)) .none .none .none (.str "copykin.tables" 327) none (.ref 137) .none)),#[]⟩)::
 (nat_lit 144,⟨.type "code",none,(.fields #[.str "is_copy" 363,.str "is_copy" 364,.str "/claim/cut.py" 365,.int 43 0,.int 1 0,.int 0 0,.int 0 0,.int 3 0,.ref 139,.bool true,.int 181 0,.ref 140,.none,.ref 141,.ref 142,.ref 143,.int 367 0,.int 43 0,.str "/claim/cut.py" 368]),#[]⟩)::
 (nat_lit 145,⟨.type "function",none,(.func (aC "is_copy" "is_copy" (bb (top 17)) (aZ (top 17)) (aJ (top 17)) .none .none .none (.str "copykin.tables" 327) none (.ref 144) .none)),#[]⟩)::
 (nat_lit 149,⟨.type "code",none,(.fields #[.str "is_table" 370,.str "is_table" 371,.str "/claim/cut.py" 372,.int 47 0,.int 1 0,.int 0 0,.int 0 0,.int 3 0,.ref 146,.bool true,.int 181 0,.ref 147,.none,.none,.none,.ref 148,.int 373 0,.int 47 0,.str "/claim/cut.py" 374]),#[]⟩)::
 (nat_lit 150,⟨.type "function",none,(.func (aC "is_table" "is_table" (bb (top 18)) (aZ (top 18)) (aJ (top 18)) .none .none .none (.str "copykin.tables" 327) none (.ref 149) .none)),#[]⟩)::
 (nat_lit 151,⟨.type "dict",none,(.dict #[⟨ag P "0",.str "0" 378,.int 0 379⟩,⟨ag P "1",.str "1" 380,.int 1 381⟩] 2),#[]⟩)::
 (nat_lit 155,⟨.type "code",none,(.fields #[.str "read_readings" 385,.str "read_readings" 386,.str "/claim/cut.py" 387,.int 57 0,.int 1 0,.int 0 0,.int 0 0,.int 3 0,.ref 152,.bool true,.int 181 0,.ref 153,.none,.none,.none,.ref 154,.int 388 0,.int 57 0,.str "/claim/cut.py" 389]),#[]⟩)::
 (nat_lit 156,⟨.type "function",none,(.func (aC "read_readings" "read_readings" (bb (top 21)) (aZ (top 21)) (aJ (top 21)) .none .none .none (.str "copykin.reader" 376) none (.ref 155) .none)),#[]⟩)::
 (nat_lit 162,⟨.type "code",none,(.fields #[.str "read_row" 391,.str "read_row" 392,.str "/claim/cut.py" 393,.int 64 0,.int 1 0,.int 0 0,.int 0 0,.int 3 0,.ref 157,.bool true,.int 181 0,.ref 158,.none,.ref 159,.ref 160,.ref 161,.int 397 0,.int 64 0,.str "/claim/cut.py" 398]),#[]⟩)::
 (nat_lit 163,⟨.type "function",none,(.func (aC "read_row" "read_row" (bb (top 22)) (aZ (top 22)) (aJ (top 22)) .none .none .none (.str "copykin.reader" 376) none (.ref 162) .none)),#[]⟩)::
 (nat_lit 169,⟨.type "code",none,(.fields #[.str "rows_of" 400,.str "rows_of" 401,.str "/claim/cut.py" 402,.int 72 0,.int 1 0,.int 0 0,.int 0 0,.int 3 0,.ref 164,.bool true,.int 181 0,.ref 165,.none,.ref 166,.ref 167,.ref 168,.int 404 0,.int 72 0,.str "/claim/cut.py" 405]),#[]⟩)::
 (nat_lit 170,⟨.type "function",none,(.func (aC "rows_of" "rows_of" (bb (top 23)) (aZ (top 23)) (aJ (top 23)) .none .none .none (.str "copykin.reader" 376) none (.ref 169) .none)),#[]⟩)::
 (nat_lit 176,⟨.type "code",none,(.fields #[.str "read" 407,.str "read" 408,.str "/claim/cut.py" 409,.int 74 0,.int 1 0,.int 0 0,.int 0 0,.int 3 0,.ref 171,.bool true,.int 181 0,.ref 172,.none,.ref 173,.ref 174,.ref 175,.int 415 0,.int 74 0,.str "/claim/cut.py" 416]),#[]⟩)::
 (nat_lit 177,⟨.type "function",none,(.func (aC "read" "read" (bb (top 24)) (aZ (top 24)) (aJ (top 24)) .none .none .none (.str "copykin.reader" 376) none (.ref 176) .none)),#[]⟩)::
 (nat_lit 183,⟨.type "code",none,(.fields #[.str "_law_cell_at" 420,.str "_law_cell_at" 421,.str "/claim/cut.py" 422,.int 85 0,.int 2 0,.int 0 0,.int 0 0,.int 3 0,.ref 178,.bool true,.int 181 0,.ref 179,.none,.ref 180,.ref 181,.ref 182,.int 425 0,.int 85 0,.str "/claim/cut.py" 426]),#[]⟩)::
 (nat_lit 184,⟨.type "function",none,(.func (aC "_law_cell_at" "_law_cell_at" (bb (top 26)) (aZ (top 26)) (aJ (top 26)) .none .none .none (.str "law_copykin_k13_whole_any_rows" 418) none (.ref 183) .none)),#[]⟩)::
 (nat_lit 190,⟨.type "code",none,(.fields #[.str "_law_whole" 428,.str "_law_whole" 429,.str "/claim/cut.py" 430,.int 89 0,.int 1 0,.int 0 0,.int 0 0,.int 3 0,.ref 185,.bool true,.int 181 0,.ref 186,.none,.ref 187,.ref 188,.ref 189,.int 432 0,.int 89 0,.str "/claim/cut.py" 433]),#[]⟩)::
 (nat_lit 191,⟨.type "function",none,(.func (aC "_law_whole" "_law_whole" (bb (top 27)) (aZ (top 27)) (aJ (top 27)) .none .none .none (.str "law_copykin_k13_whole_any_rows" 418) none (.ref 190) .none)),#[]⟩)::
 (nat_lit 197,⟨.type "code",none,(.fields #[.str "_law_mixed" 435,.str "_law_mixed" 436,.str "/claim/cut.py" 437,.int 91 0,.int 2 0,.int 0 0,.int 0 0,.int 3 0,.ref 192,.bool true,.int 181 0,.ref 193,.none,.ref 194,.ref 195,.ref 196,.int 440 0,.int 91 0,.str "/claim/cut.py" 441]),#[]⟩)::
 (nat_lit 198,⟨.type "function",none,(.func (aC "_law_mixed" "_law_mixed" (bb (top 28)) (aZ (top 28)) (aJ (top 28)) .none .none .none (.str "law_copykin_k13_whole_any_rows" 418) none (.ref 197) .none)),#[]⟩)::
 (nat_lit 204,⟨.type "code",none,(.fields #[.str "_law_name" 443,.str "_law_name" 444,.str "/claim/cut.py" 445,.int 95 0,.int 2 0,.int 0 0,.int 0 0,.int 3 0,.ref 199,.bool true,.int 181 0,.ref 200,.none,.ref 201,.ref 202,.ref 203,.int 453 0,.int 95 0,.str "/claim/cut.py" 454]),#[]⟩)::
 (nat_lit 205,⟨.type "function",none,(.func (aC "_law_name" "_law_name" (bb (top 29)) (aZ (top 29)) (aJ (top 29)) .none .none .none (.str "law_copykin_k13_whole_any_rows" 418) none (.ref 204) .none)),#[]⟩)::
 (nat_lit 209,⟨.type "code",none,(.fields #[.str "_law_readings" 456,.str "_law_readings" 457,.str "/claim/cut.py" 458,.int 105 0,.int 2 0,.int 0 0,.int 0 0,.int 3 0,.ref 206,.bool true,.int 181 0,.ref 207,.none,.none,.none,.ref 208,.int 459 0,.int 105 0,.str "/claim/cut.py" 460]),#[]⟩)::
 (nat_lit 210,⟨.type "function",none,(.func (aC "_law_readings" "_law_readings" (bb (top 30)) (aZ (top 30)) (aJ (top 30)) .none .none .none (.str "law_copykin_k13_whole_any_rows" 418) none (.ref 209) .none)),#[]⟩)::
 (nat_lit 221,⟨.type "code",none,(.fields #[.str "_law_row" 474,.str "_law_row" 475,.str "/claim/cut.py" 476,.int 116 0,.int 1 0,.int 0 0,.int 0 0,.int 3 0,.ref 218,.bool true,.int 181 0,.ref 219,.none,.none,.none,.ref 220,.int 477 0,.int 116 0,.str "/claim/cut.py" 478]),#[]⟩)::
 (nat_lit 222,⟨.type "function",none,(.func (aC "_law_row" "_law_row" (bb (top 32)) (aZ (top 32)) (aJ (top 32)) .none .none .none (.str "law_copykin_k13_whole_any_rows" 418) none (.ref 221) .none)),#[]⟩)::
 (nat_lit 228,⟨.type "code",none,(.fields #[.str "_law_spoilt" 480,.str "_law_spoilt" 481,.str "/claim/cut.py" 482,.int 121 0,.int 2 0,.int 0 0,.int 0 0,.int 3 0,.ref 223,.bool true,.int 181 0,.ref 224,.none,.ref 225,.ref 226,.ref 227,.int 486 0,.int 121 0,.str "/claim/cut.py" 487]),#[]⟩)::
 (nat_lit 229,⟨.type "function",none,(.func (aC "_law_spoilt" "_law_spoilt" (bb (top 33)) (aZ (top 33)) (aJ (top 33)) .none .none .none (.str "law_copykin_k13_whole_any_rows" 418) none (.ref 228) .none)),#[]⟩)::
 (nat_lit 235,⟨.type "code",none,(.fields #[.str "_law_text" 489,.str "_law_text" 490,.str "/claim/cut.py" 491,.int 126 0,.int 1 0,.int 0 0,.int 0 0,.int 3 0,.ref 230,.bool true,.int 181 0,.ref 231,.none,.ref 232,.ref 233,.ref 234,.int 508 0,.int 126 0,.str "/claim/cut.py" 509]),#[]⟩)::
 (nat_lit 236,⟨.type "function",none,(.func (aC "_law_text" "_law_text" (bb (top 34)) (aZ (top 34)) (aJ (top 34)) .none .none .none (.str "law_copykin_k13_whole_any_rows" 418) none (.ref 235) .none)),#[]⟩)::
 (nat_lit 242,⟨.type "code",none,(.fields #[.str "_law_refused" 511,.str "_law_refused" 512,.str "/claim/cut.py" 513,.int 155 0,.int 2 0,.int 0 0,.int 0 0,.int 3 0,.ref 237,.bool true,.int 181 0,.ref 238,.none,.ref 239,.ref 240,.ref 241,.int 518 0,.int 155 0,.str "/claim/cut.py" 519]),#[]⟩)::
 (nat_lit 243,⟨.type "function",none,(.func (aC "_law_refused" "_law_refused" (bb (top 35)) (aZ (top 35)) (aJ (top 35)) .none .none .none (.str "law_copykin_k13_whole_any_rows" 418) none (.ref 242) .none)),#[]⟩)::
 (nat_lit 249,⟨.type "code",none,(.fields #[.str "_law_read" 521,.str "_law_read" 522,.str "/claim/cut.py" 523,.int 168 0,.int 2 0,.int 0 0,.int 0 0,.int 3 0,.ref 244,.bool true,.int 181 0,.ref 245,.none,.ref 246,.ref 247,.ref 248,.int 527 0,.int 168 0,.str "/claim/cut.py" 528]),#[]⟩)::
 (nat_lit 250,⟨.type "function",none,(.func (aC "_law_read" "_law_read" (bb (top 36)) (aZ (top 36)) (aJ (top 36)) .none .none .none (.str "law_copykin_k13_whole_any_rows" 418) none (.ref 249) .none)),#[]⟩)::
 (nat_lit 254,⟨.type "code",none,(.fields #[.str "_law_forty" 530,.str "_law_forty" 531,.str "/claim/cut.py" 532,.int 171 0,.int 1 0,.int 0 0,.int 0 0,.int 3 0,.ref 251,.bool true,.int 181 0,.ref 252,.none,.none,.none,.ref 253,.int 533 0,.int 171 0,.str "/claim/cut.py" 534]),#[]⟩)::
 (nat_lit 255,⟨.type "function",none,(.func (aC "_law_forty" "_law_forty" (bb (top 37)) (aZ (top 37)) (aJ (top 37)) .none .none .none (.str "law_copykin_k13_whole_any_rows" 418) none (.ref 254) .none)),#[]⟩)::
 (nat_lit 261,⟨.type "code",none,(.fields #[.str "law" 536,.str "law" 537,.str "/claim/cut.py" 538,.int 177 0,.int 1 0,.int 0 0,.int 0 0,.int 3 0,.ref 256,.bool true,.int 181 0,.ref 257,.none,.ref 258,.ref 259,.ref 260,.int 548 0,.int 177 0,.str "/claim/cut.py" 549]),#[]⟩)::
 (nat_lit 262,⟨.type "function",none,(.func (aC "law" "law" (bb (top 38)) (aZ (top 38)) (aJ (top 38)) .none .none .none (.str "law_copykin_k13_whole_any_rows" 418) none (.ref 261) .none)),#[]⟩)::[]
noncomputable def om:List Addr:=[2,3,23,24,35,41,42,44,45,60,61,63,64,75,76,87,88,99,100,111,112,120,121,125,126,132,133,137,138,144,145,149,150,151,155,156,162,163,169,170,176,177,183,184,190,191,197,198,204,205,209,210,221,222,228,229,235,236,242,243,249,250,254,255,261,262]
noncomputable def lhsB0(w:World):=(fi iA PySem.Challenge.pw_copykin_k13_whole_any_rows w 4810).map fun s₀=>(iP iA PySem.Challenge.pw_copykin_k13_whole_any_rows (w.withFollow "special-get-raises" false) 4810 s₀).map (kf (dG K13.oj K13.om (fun _=>by kernel_rfl) []))
noncomputable def rhsB0(w:World):=some (some (ke (dG K13.oj K13.om (fun _=>by kernel_rfl) []) (w.withFollow "special-get-raises" false)))
theorem laidB0:(seen lhsB0&&seen rhsB0)=true:=by k_qdec
theorem leftB0(w:World):lhsB0 w=rhsB0 w:=by
 have _:=laidB0;rw[PySem.W.Fast.te2248195794023013735,PySem.W.Fast.te8637940548271770935]
 kernel_rfl
noncomputable def lhsB1(w:World):=(fi iA PySem.Challenge.pw_copykin_k13_whole_any_rows w 4810).map fun s₀=>(iP iA PySem.Challenge.pw_copykin_k13_whole_any_rows (w.withFollow "special-get-raises" true) 4810 s₀).map (kf (dG K13.oj K13.om (fun _=>by kernel_rfl) []))
noncomputable def rhsB1(w:World):=some (some (ke (dG K13.oj K13.om (fun _=>by kernel_rfl) []) (w.withFollow "special-get-raises" true)))
theorem laidB1:(seen lhsB1&&seen rhsB1)=true:=by k_qdec
theorem leftB1(w:World):lhsB1 w=rhsB1 w:=by
 have _:=laidB1;rw[PySem.W.Fast.te17246663204101026945,PySem.W.Fast.te15038135463087648532]
 kernel_rfl
noncomputable def vals(CE CN F D0 D1 D2 D3 D4:Addr):List (Str×V):=[("LETTERS",.str LETTERS),("LONGEST_NAME",.int 8),("MOST_PLACES",.int 60),("MOST_COPIES",.int 40),("KinError",.ref CE),("NoText",.ref CN),("FIGURES",.ref F),("Clash",.ref D0),("NoTable",.ref D1),("NoName",.ref D2),("NoReading",.ref D3),("Twice",.ref D4)]
theorem dic_F(F:Addr):bD F [(F,mG)]=some mG:=by rw[aH];simp
theorem Ax{K:aa}{C:Addr}{f:Str}{cd:ClassData}(a:gE K C=true)(b:eO K (.ref C) f=some none)(c:PySem.W.clsIn K C=some cd)(d:cd.hasDict=true):gi K C f=true:=by
 unfold gi;rw[a,b,c];simp only[beq_self_eq_true,Bool.and_self,d]
theorem tP{K:aa}{C:Addr}{cd:ClassData}(a:eO K (.ref C) "__getattribute__"=some (some (.builtin "BaseException.__getattribute__")))(b:eO K (.ref C) "__getattr__"=some none)(c:eO K (.ref C) "__class__"=some (some (.builtin "object.__class__")))
  (d:lP K (.builtin "object.__class__") "__get__"=some (some (.builtin "getset_descriptor.__get__")))(e:PySem.W.takesIn K (.builtin "object.__class__")=some true)(f:r6 K C (.type "object")=some true)(g:r6 K C (.type "BaseException")=some true)(h:PySem.W.clsIn K C=some cd):gE K C=true:=by
 unfold gE;rw[a,b,c,d,e,f,g,h];simp only[beq_self_eq_true,Bool.and_self,eA]
theorem all_mk{P:Program}{w:World}{K:aa}{h:Heap}{mg:Str->Option Value}{fa:Addr}(X:K.In h)(Gm:h.Ns a0 mg)(hfa:mg "law"=some (.ref fa)){t1 t2 t3 t4 t5 t6 t7 t8 tT:Tok}{CE CN F fI dT D0 D1 D2 D3 D4:Addr}{odI odT anI:Option Addr}{kVI docI pmI cdI ctI:Value}{slI slT:Array (Option Value)}{nT nF:Nat}
  (v1:bI K a0 "LETTERS"=some (some (.str LETTERS t1)))(v2:bI K a0 "LONGEST_NAME"=some (some (.int 8 t2)))(v3:bI K a0 "MOST_PLACES"=some (some (.int 60 t3)))(v4:bI K a0 "MOST_COPIES"=some (some (.int 40 t4)))(v5:bI K a0 "KinError"=some (some (.ref CE)))(v6:bI K a0 "NoText"=some (some (.ref CN)))(v7:bI K a0 "FIGURES"=some (some (.ref F)))(v8:bI K a0 "Clash"=some (some (.ref D0)))(v9:bI K a0 "NoTable"=some (some (.ref D1)))(v10:bI K a0 "NoName"=some (some (.ref D2)))(v11:bI K a0 "NoReading"=some (some (.ref D3)))(v12:bI K a0 "Twice"=some (some (.ref D4)))
  (mx:jW K CN fI bmV "ValueError.__new__"=true)(kI:b9 K (.ref CN)=true)
  (lI:K.lookup fI=some ⟨.type "function",odI,.func (aC "__init__" "NoText.__init__" (bb (dt 2 0)) (aZ (dt 2 0)) (aJ (dt 2 0)) (.ref dT) kVI docI pmI anI cdI ctI),slI⟩)(cI:dH K cdI "NoText.__init__"=true)(lT:K.lookup dT=some ⟨.type "tuple",odT,.seq #[.int 0 tT] nT,slT⟩)
  (b1:lP K (.ref CE) "__getattribute__"=some (some (.builtin "type.__getattribute__")))(b2:PySem.W.readsIn K CE (.type "type")=true)(b3:PySem.W.findCls K (.ref CE) (.type "type") "__init__"=some (.val (.builtin "ValueError.__init__")))
  (st:StX K CN "row")(oc:gE K CN=true)(fl:gi K CN "row"=true)(mN:PySem.W.exmOne K (.ref CN) (.ref CE)=some true)(k1:a6 K (.ref CN) (.ref CN)=some true)(kv:a6 K (.ref CN) (.type "ValueError")=some true)
  (o0:a6 K (.ref CN) (.ref D0)=some false)(o1:a6 K (.ref CN) (.ref D1)=some false)(o2:a6 K (.ref CN) (.ref D2)=some false)(o3:a6 K (.ref CN) (.ref D3)=some false)(o4:a6 K (.ref CN) (.ref D4)=some false)
  (lF:K.lookup F=some ⟨.type "dict",none,.dict #[⟨ag w.params "0",.str "0" t5,.int 0 t6⟩,⟨ag w.params "1",.str "1" t7,.int 1 t8⟩] nF,#[]⟩)(hF:(F==kW)=false)
  (bl:∀x∈fq,bI K a0 x=some none)(h13:HasFn K "is_whole" (top 13))(h14:HasFn K "is_name" (top 14))(h15:HasFn K "is_reading" (top 15))(h16:HasFn K "are_readings" (top 16))(h17:HasFn K "is_copy" (top 17))(h18:HasFn K "is_table" (top 18))(h21:HasFn K "read_readings" (top 21))(h22:HasFn K "read_row" (top 22))(h23:HasFn K "rows_of" (top 23))(h24:HasFn K "read" (top 24))(h26:HasFn K "_law_cell_at" (top 26))(h27:HasFn K "_law_whole" (top 27))(h28:HasFn K "_law_mixed" (top 28))(h29:HasFn K "_law_name" (top 29))(h30:HasFn K "_law_readings" (top 30))(h32:HasFn K "_law_row" (top 32))(h33:HasFn K "_law_spoilt" (top 33))(h34:HasFn K "_law_text" (top 34))(h35:HasFn K "_law_refused" (top 35))(h36:HasFn K "_law_read" (top 36))(h37:HasFn K "_law_forty" (top 37))(h38:HasFn K "law" (top 38)):
  ∃fd:dh,(∀(s:Shared)(v:Value),BindsTo s fd ⟨[v],[]⟩ [("_law_script",v)])/\∀base:Heap,K.In base->base.Ns a0 mg->BM mg base->gy P w K mg base CX0 26 fa fd ["_law_script"] (fun vs H Q _=>qF K vs H Q E0):=by
 obtain⟨f,oc',od,an,osl,kV,doc,pm,cdv,ct,a,l,c,k⟩:=id h38;have e:=hfa.symm.trans (br X Gm a);cases e;refine⟨aC "law" "law" (bb (top 38)) (aZ (top 38)) (aJ (top 38)) .none kV doc pm an cdv ct,fun s v=>.of_eq rfl,fun base Xb _ bm=>?_⟩;have hv:∀x v,(x,v)∈vals CE CN F D0 D1 D2 D3 D4->∃u,mg x=some u/\RelV v u:=by
  intro x v hm;simp only[vals,aA,bh,or_false,Prod.mk.injEq]at hm;rcases hm with⟨rfl,rfl⟩ |⟨rfl,rfl⟩ |⟨rfl,rfl⟩ |⟨rfl,rfl⟩ |⟨rfl,rfl⟩ |⟨rfl,rfl⟩ |⟨rfl,rfl⟩ |⟨rfl,rfl⟩ |⟨rfl,rfl⟩ |⟨rfl,rfl⟩ |⟨rfl,rfl⟩ |⟨rfl,rfl⟩
  ·exact⟨_,br X Gm v1,t1,rfl⟩
  ·exact⟨_,br X Gm v2,t2,rfl⟩
  ·exact⟨_,br X Gm v3,t3,rfl⟩
  ·exact⟨_,br X Gm v4,t4,rfl⟩
  ·exact⟨_,br X Gm v5,rfl⟩
  ·exact⟨_,br X Gm v6,rfl⟩
  ·exact⟨_,br X Gm v7,rfl⟩
  ·exact⟨_,br X Gm v8,rfl⟩
  ·exact⟨_,br X Gm v9,rfl⟩
  ·exact⟨_,br X Gm v10,rfl⟩
  ·exact⟨_,br X Gm v11,rfl⟩
  ·exact⟨_,br X Gm v12,rfl⟩
 have g0:GOk P w K mg base (CXx P w) 0 (gam (vals CE CN F D0 D1 D2 D3 D4) [] [] [(F,mG)]):=GOk.start hv (fun x hx=>PySem.W.mg_none_of X Gm (bl x hx)) (fun a kvs hm=>by obtain⟨rfl,rfl⟩:=Prod.mk.inj (bc.mp hm);exact K13.figs_mk hF lF);have g1:=cR (N:=Cp.nR) (ps:=Cp.vd) g0 (h13.def X Gm) (by decide+kernel) (fun _ _ _ _ _ _ us hl=>by obtain⟨_,rfl⟩:=Kc.d5 hl;rfl) (sp:=spB isWhole) (fun vs H Q E h=>Kc.cN h fun _ h=>Kc.fQ h rfl) lY;have g2:=cR (N:=Cp.qb) (ps:=Cp.xG) g1 (h14.def X Gm) (by decide+kernel) (fun _ _ _ _ _ _ us hl=>by obtain⟨_,rfl⟩:=Kc.d5 hl;rfl) (sp:=spN) (fun vs H Q E h=>Kc.cN h fun _ h=>Kc.fQ h rfl) (uG (by kernel_rfl) (by kernel_rfl));have g3:=cR (N:=Cp.kA) (ps:=Cp.qX) g2 (h15.def X Gm) (by decide+kernel) (fun _ _ _ _ _ _ us hl=>by obtain⟨_,rfl⟩:=Kc.d5 hl;rfl) (sp:=spB aK) (fun vs H Q E h=>Kc.cN h fun _ h=>Kc.fQ h rfl) (pj (by kernel_rfl));have g4:=cR (N:=Cp.iV) (ps:=Cp.nG) g3 (h16.def X Gm) (by decide+kernel) (fun _ _ _ _ _ _ us hl=>by obtain⟨_,rfl⟩:=Kc.d5 hl;rfl) (sp:=spR) (fun vs H Q E h=>Kc.cN h fun _ h=>Kc.fQ h rfl) (mB (by kernel_rfl) (by kernel_rfl));have g5:=cR (N:=Cp.qd) (ps:=Cp.xH) g4 (h17.def X Gm) (by decide+kernel) (fun _ _ _ _ _ _ us hl=>by obtain⟨_,rfl⟩:=Kc.d5 hl;rfl) (sp:=spC) (fun vs H Q E h=>Kc.cN h fun _ h=>Kc.fQ h rfl) (uH (by kernel_rfl) (by kernel_rfl));have g6:=cR (N:=Cp.nS) (ps:=Cp.ve) g5 (h18.def X Gm) (by decide+kernel) (fun _ _ _ _ _ _ us hl=>by obtain⟨_,rfl⟩:=Kc.d5 hl;rfl) (sp:=Cp.spT) (fun vs H Q E h=>Kc.cN h fun _ h=>Kc.fQ h rfl) (sx (by kernel_rfl) (by kernel_rfl));have nt:Nt K CE CN:=⟨⟨b1,b2,b3⟩,st,fI,mx⟩;have hi:=kl.mp K13.init_ok;have g6I:=g6.addI (n:=2) (x:="NoText") (C:=CN) ⟨mx,⟨_,lI,rfl⟩,kI⟩ (ow lI cI hi.1 hi.2 g6 (sp:=hJ CN) (fun vs H Q E h=>Kc.cN h fun _ h=>Kc.cN h fun _ h=>Kc.cN h fun _ h=>Kc.fQ h rfl) (vL (B:=CE) (C:=CN) (by kernel_rfl) nt)) (br X Gm v6) (K13.vo lT) .nil;have g6J:=g6I.addI (n:=1) (dvs:=[.int 0]) (x:="NoText") (C:=CN) ⟨mx,⟨_,lI,rfl⟩,kI⟩ (ow lI cI hi.1 hi.2 g6I (sp:=hJ CN) (fun vs H Q E h=>Kc.cN h fun _ h=>Kc.cN h fun _ h=>Kc.cN h fun _ h=>Kc.fQ h rfl) (vL (B:=CE) (C:=CN) (by kernel_rfl) nt)) (br X Gm v6) (K13.tL lT) (.cons ⟨tT,rfl⟩ .nil);have g7:=cR (N:=K12.iq) (ps:=K12.mE) g6J (h21.def X Gm) (by decide+kernel) (fun _ _ _ _ _ _ us hl=>by obtain⟨_,rfl⟩:=Kc.d5 hl;rfl) (sp:=K91.spRR) (fun vs H Q E h=>Kc.cN h fun _ h=>Kc.fQ h rfl) (K13.lg (F:=F) (by kernel_rfl) (dic_F F) (by kernel_rfl));have g8:=cR (N:=K12.nN) (ps:=K12.u9) g7 (h22.def X Gm) (by decide+kernel) (fun _ _ _ _ _ _ us hl=>by obtain⟨_,rfl⟩:=Kc.d5 hl;rfl) (sp:=ll) (fun vs H Q E h=>Kc.cN h fun _ h=>Kc.fQ h rfl) (K13.sv (by kernel_rfl) (by kernel_rfl));have g9:=cR (N:=K12.p9) (ps:=K12.xE) g8 (h23.def X Gm) (by decide+kernel) (fun _ _ _ _ _ _ us hl=>by obtain⟨_,rfl⟩:=Kc.d5 hl;rfl) (sp:=K12.uS) (fun vs H Q E h=>Kc.cN h fun _ h=>Kc.cN h fun _ h=>Kc.fQ h rfl) K12.uE;have g10:=cR (N:=K12.z7) (ps:=K12.p_read) g9 (h24.def X Gm) (by decide+kernel) (fun _ _ _ _ _ _ us hl=>by obtain⟨_,rfl⟩:=Kc.d5 hl;rfl) (sp:=mO CN) (fun vs H Q E h=>Kc.cN h fun _ h=>Kc.fQ h rfl) (K13.wp_read (C:=CN) (by kernel_rfl) (by kernel_rfl) (by kernel_rfl) (by kernel_rfl));have g11:=cR (N:=Lt.jF) (ps:=Lt.pz) g10 (h26.def X Gm) (by decide+kernel) (fun _ _ _ _ _ _ us hl=>by obtain⟨_,_,rfl⟩:=Kc.hG hl;rfl) (sp:=Lt.jS K) (fun vs H Q E h=>Kc.cN h fun _ h=>Kc.cN h fun _ h=>Kc.cN h fun _ h=>Kc.fQ h rfl) Lt.wp_cell;have g12:=cR (N:=K02.tw) (ps:=K02.sU) g11 (h27.def X Gm) (by decide+kernel) (fun _ _ _ _ _ _ us hl=>by obtain⟨_,rfl⟩:=Kc.d5 hl;rfl) (sp:=spB isWhole) (fun vs H Q E h=>Kc.cN h fun _ h=>Kc.fQ h rfl) lY;have g13:=cR (N:=Lt.lZ) (ps:=Lt.sV) g12 (h28.def X Gm) (by decide+kernel) (fun _ _ _ _ _ _ us hl=>by obtain⟨_,_,rfl⟩:=Kc.hG hl;rfl) (sp:=Lt.qE) (fun vs H Q E h=>Kc.cN h fun _ h=>Kc.cN h fun _ h=>Kc.fQ h rfl) Lt.yD;have g14:=cR (N:=K11.nQ) (ps:=K11.vc) g13 (h29.def X Gm) (by decide+kernel) (fun _ _ _ _ _ _ us hl=>by obtain⟨_,_,rfl⟩:=Kc.hG hl;rfl) (sp:=K11.mP) (fun vs H Q E h=>Kc.cN h fun _ h=>Kc.cN h fun _ h=>Kc.fQ h rfl) K11.yC;have g15:=cR (N:=Lt.iU) (ps:=Lt.nC) g14 (h30.def X Gm) (by decide+kernel) (fun _ _ _ _ _ _ us hl=>by obtain⟨_,_,rfl⟩:=Kc.hG hl;rfl) (sp:=Lt.yX) (fun vs H Q E h=>Kc.cN h fun _ h=>Kc.cN h fun _ h=>Kc.fQ h rfl) Lt.sr;have g16:=cR (N:=K13.qa) (ps:=K13.xF) g15 (h32.def X Gm) (by decide+kernel) (fun _ _ _ _ _ _ us hl=>by obtain⟨_,rfl⟩:=Kc.d5 hl;rfl) (sp:=uR) (fun vs H Q E h=>Kc.cN h fun _ h=>Kc.cN h fun _ h=>Kc.cN h fun _ h=>Kc.fQ h rfl) wp_rw;have g17:=cR (N:=K13.kz) (ps:=K13.qW) g16 (h33.def X Gm) (by decide+kernel) (fun _ _ _ _ _ _ us hl=>by obtain⟨_,_,rfl⟩:=Kc.hG hl;rfl) (sp:=yW) (fun vs H Q E h=>Kc.cN h fun _ h=>Kc.cN h fun _ h=>Kc.fQ h rfl) wp_sl;have g18:=cR (N:=K13.nO) (ps:=K13.va) g17 (h34.def X Gm) (by decide+kernel) (fun _ _ _ _ _ _ us hl=>by obtain⟨_,rfl⟩:=Kc.d5 hl;rfl) (sp:=spTx K) (fun vs H Q E h=>Kc.cN h fun _ h=>Kc.cN h fun _ h=>Kc.fQ h rfl) (wp_text (by kernel_rfl) (by kernel_rfl) (by kernel_rfl) (by kernel_rfl) (by kernel_rfl) (by kernel_rfl));have X':∀fns {inis},Xc (gam (vals CE CN F D0 D1 D2 D3 D4) fns inis [(F,mG)]) K CE CN:=fun fns _=>⟨by kernel_rfl,by kernel_rfl,mN,oc,k1,kv,fun x hx=>by
  simp only[others,aA,bh,or_false]at hx;rcases hx with rfl|rfl|rfl|rfl|rfl
  ·exact⟨D0,by kernel_rfl,o0⟩
  ·exact⟨D1,by kernel_rfl,o1⟩
  ·exact⟨D2,by kernel_rfl,o2⟩
  ·exact⟨D3,by kernel_rfl,o3⟩
  ·exact⟨D4,by kernel_rfl,o4⟩,fl⟩
 have g19:=cR (N:=K13.jE) (ps:=K13.pw) g18 (h35.def X Gm) (by decide+kernel) (fun _ _ _ _ _ _ us hl=>by obtain⟨_,_,rfl⟩:=Kc.hG hl;rfl) (sp:=ng) (fun vs H Q E h=>Kc.cN h fun _ h=>Kc.cN h fun _ h=>Kc.fQ h rfl) (uF (CE:=CE) (C:=CN) (X' _) (by kernel_rfl) (by kernel_rfl));have g20:=cR (N:=K13.nP) (ps:=K13.vb) g19 (h36.def X Gm) (by decide+kernel) (fun _ _ _ _ _ _ us hl=>by obtain⟨_,_,rfl⟩:=Kc.hG hl;rfl) (sp:=nh) (fun vs H Q E h=>Kc.cN h fun _ h=>Kc.cN h fun _ h=>Kc.cN h fun _ h=>Kc.cN h fun _ h=>Kc.cN h fun _ h=>Kc.fQ h rfl) (yB (C:=CN) (by kernel_rfl));have g21:=cR (N:=K13.l7) (ps:=K13.sW) g20 (h37.def X Gm) (by decide+kernel) (fun _ _ _ _ _ _ us hl=>by obtain⟨_,rfl⟩:=Kc.d5 hl;rfl) (sp:=spFo) (fun vs H Q E h=>Kc.cN h fun _ h=>Kc.fQ h rfl) (yE (by kernel_rfl) (by kernel_rfl) (by kernel_rfl));have hk:(nJ K13.z8 K13.p_law (aJ (top 38))&&i3 (aJ (top 38)) K13.z8 K13.AM (aZ (top 38)))=true:=by decide+kernel
 rw[ae]at hk;exact gy.calm (wG (Av l c k) hk.1 hk.2 g21 (fun vs H Q E h=>Kc.cN h fun _ h=>Kc.cN h fun _ h=>Kc.fQ h rfl) (K13.wp_law (C:=CN) ⟨fl,(by kernel_rfl),(by kernel_rfl),(by kernel_rfl),(by kernel_rfl),(by kernel_rfl),(by kernel_rfl)⟩ (by kernel_rfl) (by kernel_rfl)))
end K13
open PySem PySem.W PyProof.Rows
set_option maxRecDepth 100000 in
set_option maxHeartbeats 0 in
theorem PySem.Challenge.cw_copykin_k13_whole_any_rows_holds : PySem.Challenge.rw_copykin_k13_whole_any_rows.Holds := by
 w_on;o_law
 refine PySem.W.holds_open (q:=K13.vw) (loose:=K13.loo) (Xt:=K13.xt)
  (XP:=PySem.W.XL K13.vw []) (Yf:=kf (dG K13.oj K13.om (fun _=>by kernel_rfl) [])) (Ya:=ke (dG K13.oj K13.om (fun _=>by kernel_rfl) []))
  (YP:=PySem.W.Hook.says (dG K13.oj K13.om (fun _=>by kernel_rfl) [])) (N:=4810) (PySem.W.LeftO.of_split "special-get-raises" fun w=>K13.both4 (K13.leftA0 w) (K13.leftB0 w) (K13.leftA1 w) (K13.leftB1 w)) (PySem.W.Hook.of _) (PySem.W.Hook.keeps _)
  (fun s e=>PySem.W.xl_of s (kl.mp e).1) PySem.W.XL.keeps
  (by rfl) (by rfl) (by rfl)
  (fun s e=>PySem.W.recFacts_of (kl.mp e).2) rfl (by assumption) (by decide+kernel)
  ⟨rfl,rfl,rfl,rfl,rfl,by decide+kernel⟩ ?hw ?hc
 (case hw=>w_witness2)
 k_fill
 refine Lm.yF (l:=PySem.Challenge.rw_copykin_k13_whole_any_rows) (n:=63) (k:=26) (x:="_law_script") (CX:=L2.CX0) (sp:=fun K=>fun vs H Q _=>K13.qF K vs H Q L2.E0) (tabs:=[]) rfl (by decide) rfl ⟨rfl,by decide,by decide⟩ (fun w h Y=>PySem.W.km_in_of Y) ?T ?F (fun K H a ns hl ht hS=>⟨a,ns,rfl,hS,hl,fun _=>rfl⟩) (fun _ _ _ _ z=>z)
 case T=>
  intro w s₀ mg mb h G Y p hp;exact nomatch hp
 case F=>
  intro w mg fa h KX G hmg;refine' K13.all_mk (fI:=42) (dT:=35) (cdI:=.ref 41) KX G hmg ?v1 ?v2 ?v3 ?v4 ?v5 ?v6 ?v7 ?v8 ?v9 ?v10 ?v11 ?v12 ?mx ?kI ?lI ?cI ?lT ?b1 ?b2 ?b3 ?st ?oc ?fl ?mN ?k1 ?kv ?o0 ?o1 ?o2 ?o3 ?o4 ?lF ?hF ?bl ?h13 ?h14 ?h15 ?h16 ?h17 ?h18 ?h21 ?h22 ?h23 ?h24 ?h26 ?h27 ?h28 ?h29 ?h30 ?h32 ?h33 ?h34 ?h35 ?h36 ?h37 ?h38
  (case v1=>k_is);(case v2=>k_is);(case v3=>k_is);(case v4=>k_is);(case v5=>k_is);(case v6=>k_is);(case v7=>k_is);(case v8=>k_is);(case v9=>k_is);(case v10=>k_is);(case v11=>k_is);(case v12=>k_is)
  (case mx=>first |k_exc|kernel_rfl);(case kI=>k_is);(case lI=>k_is);(case cI=>k_is);(case lT=>k_is);(case b1=>k_is);(case b2=>first |k_is|kernel_rfl);(case b3=>first |k_is|kernel_rfl)
  (case st=>refine'⟨?s1,?s2,?s3,?s4⟩;(case s1=>k_is);(case s2=>first |k_is|kernel_rfl);(case s3=>first |k_is|kernel_rfl);(case s4=>first |k_is|kernel_rfl))
  (case oc=>refine' K13.tP ?xa ?xb ?xcc ?xd ?xe ?xf ?xg ?xh;(case xa=>k_is);(case xb=>k_is);(case xcc=>k_is);(case xd=>k_is);(case xe=>k_is);(case xf=>k_is);(case xg=>k_is);(case xh=>k_is))
  (case fl=>refine' K13.Ax (K13.tP ?xa ?xb ?xcc ?xd ?xe ?xf ?xg ?xh) ?fb ?fc ?fd;(case xa=>k_is);(case xb=>k_is);(case xcc=>k_is);(case xd=>k_is);(case xe=>k_is);(case xf=>k_is);(case xg=>k_is);(case xh=>k_is);(case fb=>k_is);(case fc=>k_is);(case fd=>rfl))
  (case mN=>kts_exm)
  (case k1=>kit_is);(case kv=>kit_is);(case o0=>kit_is);(case o1=>kit_is);(case o2=>kit_is);(case o3=>kit_is);(case o4=>kit_is)
  (case lF=>k_is);(case hF=>decide)
  (case bl=>
   intro x hx;simp only[R.fq,aA,bh,or_false]at hx;rcases hx with rfl|rfl|rfl|rfl|rfl|rfl|rfl|rfl|rfl|rfl|rfl|rfl|rfl|rfl|rfl|rfl|rfl|rfl|rfl<;>k_is)
  (case h13=>refine' R.bH ?a ?l ?c ?k;(case a=>k_is);(case l=>k_is);(case c=>k_is);(case k=>k_is))
  (case h14=>refine' R.bH ?a ?l ?c ?k;(case a=>k_is);(case l=>k_is);(case c=>k_is);(case k=>k_is))
  (case h15=>refine' R.bH ?a ?l ?c ?k;(case a=>k_is);(case l=>k_is);(case c=>k_is);(case k=>k_is))
  (case h16=>refine' R.bH ?a ?l ?c ?k;(case a=>k_is);(case l=>k_is);(case c=>k_is);(case k=>k_is))
  (case h17=>refine' R.bH ?a ?l ?c ?k;(case a=>k_is);(case l=>k_is);(case c=>k_is);(case k=>k_is))
  (case h18=>refine' R.bH ?a ?l ?c ?k;(case a=>k_is);(case l=>k_is);(case c=>k_is);(case k=>k_is))
  (case h21=>refine' R.bH ?a ?l ?c ?k;(case a=>k_is);(case l=>k_is);(case c=>k_is);(case k=>k_is))
  (case h22=>refine' R.bH ?a ?l ?c ?k;(case a=>k_is);(case l=>k_is);(case c=>k_is);(case k=>k_is))
  (case h23=>refine' R.bH ?a ?l ?c ?k;(case a=>k_is);(case l=>k_is);(case c=>k_is);(case k=>k_is))
  (case h24=>refine' R.bH ?a ?l ?c ?k;(case a=>k_is);(case l=>k_is);(case c=>k_is);(case k=>k_is))
  (case h26=>refine' R.bH ?a ?l ?c ?k;(case a=>k_is);(case l=>k_is);(case c=>k_is);(case k=>k_is))
  (case h27=>refine' R.bH ?a ?l ?c ?k;(case a=>k_is);(case l=>k_is);(case c=>k_is);(case k=>k_is))
  (case h28=>refine' R.bH ?a ?l ?c ?k;(case a=>k_is);(case l=>k_is);(case c=>k_is);(case k=>k_is))
  (case h29=>refine' R.bH ?a ?l ?c ?k;(case a=>k_is);(case l=>k_is);(case c=>k_is);(case k=>k_is))
  (case h30=>refine' R.bH ?a ?l ?c ?k;(case a=>k_is);(case l=>k_is);(case c=>k_is);(case k=>k_is))
  (case h32=>refine' R.bH ?a ?l ?c ?k;(case a=>k_is);(case l=>k_is);(case c=>k_is);(case k=>k_is))
  (case h33=>refine' R.bH ?a ?l ?c ?k;(case a=>k_is);(case l=>k_is);(case c=>k_is);(case k=>k_is))
  (case h34=>refine' R.bH ?a ?l ?c ?k;(case a=>k_is);(case l=>k_is);(case c=>k_is);(case k=>k_is))
  (case h35=>refine' R.bH ?a ?l ?c ?k;(case a=>k_is);(case l=>k_is);(case c=>k_is);(case k=>k_is))
  (case h36=>refine' R.bH ?a ?l ?c ?k;(case a=>k_is);(case l=>k_is);(case c=>k_is);(case k=>k_is))
  (case h37=>refine' R.bH ?a ?l ?c ?k;(case a=>k_is);(case l=>k_is);(case c=>k_is);(case k=>k_is))
  (case h38=>refine' R.bH ?a ?l ?c ?k;(case a=>k_is);(case l=>k_is);(case c=>k_is);(case k=>k_is))
