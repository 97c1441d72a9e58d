import PyProof.Rows.All
import Wide.All
import OpenK.AllK
import Wide.FinOn
import HandS.ExcCtx
import HandS.ForMost
import HandS.ForExc
import HandS.AnyAll
import HandS.Deep
import HandS.Wide
import HandS.TupAny
import HandS.IsInst
import PyProof.DictKinds
import HandS.DictComp
import HandS.Lambda
import KE.SortData
import HandS.GenList
import HandS.Conv
import HandS.EndTab
import HandS.TupLe
import KE.GoesEnum
import KE.DataMinKey
import KE.KLam
import KE.DataMinMax
import HandS.SetFor
import HandS.Strs
import KE.KExcIs
import KE.KTupSum
import KE.KExcPX
import KE.KExcInit
import KE.KExcSuper
import OpenK.KCls
import HandS.HotCalls
import HandS.SortKw
import KE.GoesEnumKw
import KE.KDictDisplayH
import HandS.NamedTupSort
import HandS.SetBool
import HandS.TupSets
import HandS.RepeatKit
import HandS.MapObj
import PyProof.ListNew
import PyProof.Rows.SortShell
import HandS.ExcValue
import HandS.ExcInit
import PyProof.AutoListH
import PyProof.ListIndexOut
import HandS.CallSlots
import PySem.Challenge.RW_takersrest_k52_whole_apart_or_bar
set_option Elab.async false
set_option linter.all false
set_option maxRecDepth 100000
set_option maxHeartbeats 1000000
namespace PD
open PySem PySem.Spec PyProof.Rows L2
structure Ex where
  cls : Addr
  fs : List (Str × PyData)
inductive R (α : Type) where
  | ok (a : α)
  | exc (e : Ex)
  | bad
def R.bind {α β : Type} (x : R α) (f : α → R β) : R β := match x with
  | .ok a => f a
  | .exc e => .exc e
  | .bad => .bad
instance : Monad R where
  pure := .ok
  bind := R.bind
@[simp] theorem R.bind_ok {α β : Type} (a : α) (f : α → R β) : (R.ok a >>= f) = f a := rfl
@[simp] theorem R.bind_exc {α β : Type} (e : Ex) (f : α → R β) : ((R.exc e : R α) >>= f) = R.exc e := rfl
@[simp] theorem R.bind_bad {α β : Type} (f : α → R β) : ((R.bad : R α) >>= f) = R.bad := rfl
@[simp] theorem R.pure_eq {α : Type} (a : α) : (pure a : R α) = R.ok a := rfl
/-- the table of a code object at P: what it tells are code objects that are known -/
def TabC (H : Hp) (P : Addr) : Prop := ∃ ps : Array Value, H P = some (.tbl ps) ∧ TriplesOk ps.toList ∧ ∀ (pos : Pos) (cv : Value), codeAmong pos ps.toList = some cv → ∃ c q, cv = .ref c ∧ H c = some (LamX.CodeO c q)
theorem TabC.mono {H H' : Hp} {b : Addr} (t : TabC H b) (e : ∀ ps, H b = some (.tbl ps) → H' b = some (.tbl ps)) (k : ∀ c q, H c = some (LamX.CodeO c q) → H' c = some (LamX.CodeO c q)) : TabC H' b := by
  obtain ⟨ps, h, z, q⟩ := t
  refine ⟨ps, e ps h, z, fun pos cv hc => ?_⟩
  obtain ⟨c, n, e1, e2⟩ := q pos cv hc
  exact ⟨c, n, e1, k c n e2⟩
theorem TabC.nil {H : Hp} {b : Addr} (h : H b = some (.tbl #[])) : TabC H b := ⟨#[], h, True.intro, fun pos cv hc => by
  have z : codeAmong pos [] = some cv := hc
  simp [codeAmong] at z⟩
/-- an object that is no code object and no table -/
def Plain (o : HO) : Prop := (∀ c q, o ≠ LamX.CodeO c q) ∧ ∀ ps, o ≠ .tbl ps
theorem plain_lst (l : List V) : Plain (.lst l) := ⟨fun _ _ h => (by unfold LamX.CodeO at h; cases h), fun _ h => (by cases h)⟩
structure Ext (H H' : Hp) : Prop where
  keep : ∀ b o, H b = some o → (∀ ps, o ≠ .tbl ps) → H' b = some o
  tab : ∀ b, TabC H b → TabC H' b
  al : ∀ b, H b ≠ none → H' b ≠ none
theorem Ext.refl (H : Hp) : Ext H H := ⟨fun _ _ h _ => h, fun _ h => h, fun _ h => h⟩
theorem Ext.trans {H H1 H2 : Hp} (a : Ext H H1) (b : Ext H1 H2) : Ext H H2 :=
  ⟨fun c o h n => b.keep c o (a.keep c o h n) n, fun c h => b.tab c (a.tab c h), fun c h => b.al c (a.al c h)⟩
theorem Ext.new {H : Hp} {p : Addr} {o : HO} (h : H p = none) : Ext H (upd H p o) := by
  refine ⟨fun b x e n => ?_, fun b t => ?_, fun b e => ?_⟩
  · rw [upd_ne (ne_of_none e h)]; exact e
  · exact t.mono (fun ps e => by rw [upd_ne (ne_of_none e h)]; exact e) fun c q e => by rw [upd_ne (ne_of_none e h)]; exact e
  · by_cases hb : b = p
    · rw [hb, upd_same]; simp
    · rw [upd_ne hb]; exact e
theorem Ext.same {H H' : Hp} (s : Same H H') : Ext H H' :=
  ⟨fun b o e _ => s b o e, fun b t => t.mono (fun ps e => s b _ e) (fun c q e => s c _ e), fun b e => by
    cases q : H b with
    | none => exact absurd q e
    | some o => rw [s b o q]; simp⟩
/-- the heap without the addresses O -/
def hide (O : List Addr) (H : Hp) : Hp := fun b => if b ∈ O then none else H b
theorem hide_out {O : List Addr} {H : Hp} {b : Addr} (h : b ∉ O) : hide O H b = H b := by unfold hide; rw [if_neg h]
theorem hide_some {O : List Addr} {H : Hp} {b : Addr} {o : HO} (h : hide O H b = some o) : b ∉ O ∧ H b = some o := by
  unfold hide at h
  split at h
  · cases h
  · exact ⟨by assumption, h⟩
/-- what reading data leans on -/
def Sub (G G' : Hp) : Prop := ∀ b o, G b = some o → (∀ ps, o ≠ .tbl ps) → G' b = some o
theorem Sub.trans {G G1 G2 : Hp} (a : Sub G G1) (b : Sub G1 G2) : Sub G G2 := fun c o h n => b c o (a c o h n) n
theorem Sub.ext {H H' : Hp} (e : Ext H H') : Sub H H' := e.keep
theorem Sub.hide {O : List Addr} {H H' : Hp} (e : Sub H H') : Sub (hide O H) (PD.hide O H') := fun b o h n => by
  obtain ⟨h1, h2⟩ := hide_some h
  rw [hide_out h1]
  exact e b o h2 n
theorem Sub.less {O O' : List Addr} {H : Hp} (e : ∀ b ∈ O', b ∈ O) : Sub (PD.hide O H) (PD.hide O' H) := fun b o h n => by
  obtain ⟨h1, h2⟩ := hide_some h
  rw [hide_out fun m => h1 (e b m)]
  exact h2
theorem Sub.unhide {O : List Addr} {H : Hp} : Sub (PD.hide O H) H := fun b o h n => (hide_some h).2
theorem Sub.sqL {K : PySem.W.Frag} {G G' : Hp} {a : Addr} {xs : List V} (s : Sub G G') (h : SqL K G a xs) : SqL K G' a xs := by
  rcases h with (h | ⟨o, h⟩) | h
  · exact .inl (.inl (s _ _ h fun _ q => by cases q))
  · exact .inl (.inr ⟨o, s _ _ h fun _ q => by cases q⟩)
  · exact .inr h
theorem Sub.sqT {K : PySem.W.Frag} {G G' : Hp} {a : Addr} {xs : List V} (s : Sub G G') (h : SqT K G a xs) : SqT K G' a xs := by
  rcases h with (h | ⟨o, h⟩) | h
  · exact .inl (.inl (s _ _ h fun _ q => by cases q))
  · exact .inl (.inr ⟨o, s _ _ h fun _ q => by cases q⟩)
  · exact .inr h
abbrev ikt (P : Program) (w : World) : HeapKind P w (List Int) := tupleKind (intKind P w)
def dctO (a : Addr) (ep : Nat) (xs : List (List Int × Addr)) : HO := .ext fun h => (a == sysModules) = false ∧ xs.length ≤ sizeLine ∧ (xs.map (·.1)).Nodup ∧
  ∃ o es, h.get? a = some o ∧ o.ExactDict ∧ o.data = .dict es ep ∧ ∀ (P : Program) (w : World), es.toList = xs.map fun x => entryOfKey (ikt P w) (x.1, x.2, .bool true)
def dctE (x : List Int × Addr) : PyData × PyData := (.tuple (x.1.map .int), .bool true)
mutual
def nod : PyData → Bool
  | .none | .bool _ | .int _ | .str _ => true
  | .list xs | .tuple xs => nodAll xs
  | .dict _ => false
def nodAll : List PyData → Bool
  | [] => true
  | x :: xs => nod x && nodAll xs
end
mutual
theorem nod_of_lay : ∀ {d : PyData}, d.canLay0 = true → nod d = true
  | .none, _ => rfl
  | .bool _, _ => rfl
  | .int _, _ => rfl
  | .str _, _ => rfl
  | .list xs, h => nodAll_of_lay (xs := xs) h
  | .tuple xs, h => nodAll_of_lay (xs := xs) h
  | .dict _, h => by cases h
theorem nodAll_of_lay : ∀ {xs : List PyData}, PyData.canLayAll0 xs = true → nodAll xs = true
  | [], _ => rfl
  | x :: xs, h => by
    have h : (x.canLay0 && PyData.canLayAll0 xs) = true := h
    show (nod x && nodAll xs) = true
    rw [Bool.and_eq_true] at h ⊢
    exact ⟨nod_of_lay h.1, nodAll_of_lay h.2⟩
end
def dkD (ks : List (Int × PyData)) : PyData := .dict ((.bool true, .none) :: ks.map fun x => (.int x.1, x.2))
def obD (C : Addr) (fs : List (Str × PyData)) : PyData := .dict ((.none, .int (C : Int)) :: fs.map fun x => (.str x.1, x.2))
mutual
inductive Rp (K : PySem.W.Frag) (G : Hp) : V → PyData → Prop
  | non : Rp K G .non .none
  | bl (b : Bool) : Rp K G (.bl b) (.bool b)
  | int (i : Int) : Rp K G (.int i) (.int i)
  | str (x : Str) : Rp K G (.str x) (.str x)
  | lst {a : Addr} {xs : List V} {ds : List PyData} : SqL K G a xs → ds.length ≤ sizeLine → RpAll K G xs ds → Rp K G (.ref a) (.list ds)
  | tup {a : Addr} {xs : List V} {ds : List PyData} : SqT K G a xs → ds.length ≤ sizeLine → RpAll K G xs ds → Rp K G (.ref a) (.tuple ds)
  | dct {a : Addr} {ep : Nat} {xs : List (List Int × Addr)} : G a = some (dctO a ep xs) → (∀ x ∈ xs, SqT K G x.2 (x.1.map V.int)) → Rp K G (.ref a) (.dict (xs.map dctE))
  | dk {a : Addr} {o : Obj} {kvs : List (Key × V)} {ks : List (Int × PyData)} : G a = some (.frz o (.dK kvs)) → kvs.map (·.1) = ks.map (fun x => Sum.inl x.1) → RpAll K G (kvs.map (·.2)) (ks.map (·.2)) → Rp K G (.ref a) (dkD ks)
  | ins {a C dx : Addr} {fs : List (Str × V)} {ds : List (Str × PyData)} : G a = some (.ins C dx fs) → fs.map (·.1) = ds.map (·.1) → RpAll K G (fs.map (·.2)) (ds.map (·.2)) → Rp K G (.ref a) (obD C ds)
inductive RpAll (K : PySem.W.Frag) (G : Hp) : List V → List PyData → Prop
  | nil : RpAll K G [] []
  | cons {v : V} {vs : List V} {d : PyData} {ds : List PyData} : Rp K G v d → RpAll K G vs ds → RpAll K G (v :: vs) (d :: ds)
end
section
variable {K : PySem.W.Frag} {G G' : Hp}
theorem Rp.mono (s : Sub G G') {d : PyData} {v : V} (h : Rp K G v d) : Rp K G' v d :=
  Rp.rec (motive_1 := fun v d _ => Rp K G' v d) (motive_2 := fun vs ds _ => RpAll K G' vs ds) .non (fun b => .bl b) (fun i => .int i) (fun x => .str x)
    (fun a z _ b => .lst (s.sqL a) z b) (fun a z _ b => .tup (s.sqT a) z b) (fun a b => .dct (s _ _ a (fun _ q => by cases q)) fun x hx => s.sqT (b x hx))
    (fun a b _ c => .dk (s _ _ a (fun _ q => by cases q)) b c) (fun a b _ c => .ins (s _ _ a (fun _ q => by cases q)) b c) .nil (fun _ _ a b => .cons a b) h
theorem RpAll.mono (s : Sub G G') : ∀ {ds : List PyData} {vs : List V}, RpAll K G vs ds → RpAll K G' vs ds
  | [], _, h => by cases h; exact .nil
  | _ :: _, _, h => by
    cases h with
    | cons a b => exact .cons (Rp.mono s a) (RpAll.mono s b)
mutual
theorem Rp.dp : ∀ {d : PyData} {v : V}, Rp K G v d → nod d = true → Dp K G v d
  | .none, _, h, _ => by cases h; exact .non
  | .bool _, _, h, _ => by cases h; exact .bl _
  | .int _, _, h, _ => by cases h; exact .int _
  | .str _, _, h, _ => by cases h; exact .str _
  | .list _, _, h, n => by
    cases h with
    | lst a z b => exact .lst a (RpAll.dp b n)
  | .tuple _, _, h, n => by
    cases h with
    | tup a z b => exact .tup a (RpAll.dp b n)
  | .dict _, _, h, n => by cases n
theorem RpAll.dp : ∀ {ds : List PyData} {vs : List V}, RpAll K G vs ds → nodAll ds = true → DpAll K G vs ds
  | [], _, h, _ => by cases h; exact .nil
  | d :: ds, _, h, n => by
    have n : (nod d && nodAll ds) = true := n
    rw [Bool.and_eq_true] at n
    cases h with
    | cons a b => exact .cons (Rp.dp a n.1) (RpAll.dp b n.2)
end
mutual
theorem Rp.shaped : ∀ {d : PyData} {v : V}, Rp K G v d → True := fun _ => trivial
end
theorem RpAll.length : ∀ {vs : List V} {ds : List PyData}, RpAll K G vs ds → vs.length = ds.length
  | _, _, .nil => rfl
  | _, _, .cons _ t => by simp [RpAll.length t]
theorem RpAll.get : ∀ {vs : List V} {ds : List PyData} {i : Nat} {v : V}, RpAll K G vs ds → vs[i]? = some v → ∃ d, ds[i]? = some d ∧ Rp K G v d
  | _, _, _, _, .nil, h => by simp at h
  | _, _, 0, _, .cons r _, h => by simp at h; subst h; exact ⟨_, rfl, r⟩
  | _, _, i + 1, _, .cons _ t, h => by
    obtain ⟨d, h1, h2⟩ := RpAll.get (i := i) t (by simpa using h)
    exact ⟨d, by simpa using h1, h2⟩
theorem RpAll.get' : ∀ {vs : List V} {ds : List PyData} {i : Nat} {d : PyData}, RpAll K G vs ds → ds[i]? = some d → ∃ v, vs[i]? = some v ∧ Rp K G v d
  | _, _, _, _, .nil, h => by simp at h
  | _, _, 0, _, .cons r _, h => by simp at h; subst h; exact ⟨_, rfl, r⟩
  | _, _, i + 1, _, .cons _ t, h => by
    obtain ⟨d, h1, h2⟩ := RpAll.get' (i := i) t (by simpa using h)
    exact ⟨d, by simpa using h1, h2⟩
theorem RpAll.append : ∀ {vs ws : List V} {ds es : List PyData}, RpAll K G vs ds → RpAll K G ws es → RpAll K G (vs ++ ws) (ds ++ es)
  | _, _, _, _, .nil, q => q
  | _, _, _, _, .cons r t, q => .cons r (RpAll.append t q)
theorem RpAll.one {v : V} {d : PyData} (h : Rp K G v d) : RpAll K G [v] [d] := .cons h .nil
theorem RpAll.take : ∀ {vs : List V} {ds : List PyData} (n : Nat), RpAll K G vs ds → RpAll K G (vs.take n) (ds.take n)
  | _, _, 0, _ => .nil
  | _, _, _ + 1, .nil => .nil
  | _, _, n + 1, .cons r t => .cons r (RpAll.take n t)
theorem RpAll.drop : ∀ {vs : List V} {ds : List PyData} (n : Nat), RpAll K G vs ds → RpAll K G (vs.drop n) (ds.drop n)
  | _, _, 0, r => r
  | _, _, _ + 1, .nil => .nil
  | _, _, n + 1, .cons _ t => RpAll.drop n t
theorem RpAll.set {v : V} {d : PyData} (r : Rp K G v d) : ∀ {vs : List V} {ds : List PyData} (i : Nat), RpAll K G vs ds → RpAll K G (vs.set i v) (ds.set i d)
  | _, _, _, .nil => .nil
  | _, _, 0, .cons _ t => .cons r t
  | _, _, i + 1, .cons q t => .cons q (RpAll.set r i t)
theorem RpAll.erase : ∀ {vs : List V} {ds : List PyData} (i : Nat), RpAll K G vs ds → RpAll K G (vs.eraseIdx i) (ds.eraseIdx i)
  | _, _, _, .nil => .nil
  | _, _, 0, .cons _ t => t
  | _, _, i + 1, .cons q t => .cons q (RpAll.erase i t)
end
inductive Sl where
  | d (x : PyData)
  | own (xs : List PyData)
  | dct (ks : List (List Int))
  | dk (kvs : List (Int × PyData))
  | exn (a : Addr) (cls : Value) (dd : Option Addr) (e : Ex)
def Sl.Hold : Sl → Prop
  | .own _ => True
  | .dct _ => True
  | .dk _ => True
  | _ => False
abbrev Rho := List (Option Sl)
def ExR (K : PySem.W.Frag) (G H : Hp) (cls : Value) (d : Option Addr) (e : Ex) : Prop :=
  cls = .ref e.cls ∧ ((e.fs = [] ∧ d = none) ∨ ∃ dd fs, d = some dd ∧ H dd = some (.xd fs) ∧ fs.map (·.1) = e.fs.map (·.1) ∧ RpAll K G (fs.map (·.2)) (e.fs.map (·.2)))
theorem ExR.mv {K : PySem.W.Frag} {G G' H H' : Hp} {cls : Value} {d : Option Addr} {e : Ex} (s : Sub G G') (hx : ∀ dd fs, H dd = some (.xd fs) → H' dd = some (.xd fs)) (h : ExR K G H cls d e) : ExR K G' H' cls d e := by
  obtain ⟨h1, h2⟩ := h
  refine ⟨h1, ?_⟩
  rcases h2 with h2 | ⟨dd, fs, h3, h4, h5, h6⟩
  · exact .inl h2
  · exact .inr ⟨dd, fs, h3, hx _ _ h4, h5, h6.mono s⟩
def SlotR (K : PySem.W.Frag) (O0 O : List Addr) (H : Hp) (v : V) : Sl → Prop
  | .d x => Rp K (hide O H) v x
  | .own xs => ∃ p vs, v = .ref p ∧ p ∈ O ∧ p ∉ O0 ∧ H p = some (.lst vs) ∧ xs.length ≤ sizeLine ∧ RpAll K (hide O H) vs xs
  | .dct ks => ∃ p ep xs, v = .ref p ∧ p ∈ O ∧ p ∉ O0 ∧ H p = some (dctO p ep xs) ∧ xs.map (·.1) = ks ∧ ∀ x ∈ xs, SqT K (hide O H) x.2 (x.1.map V.int)
  | .dk ks => ∃ p kvs, v = .ref p ∧ p ∈ O ∧ p ∉ O0 ∧ H p = some (.dK kvs) ∧ kvs.map (·.1) = ks.map (fun x => Sum.inl x.1) ∧ RpAll K (hide O H) (kvs.map (·.2)) (ks.map (·.2))
  | .exn a cls dd e => v = .ref a ∧ ExR K (hide O H) H cls dd e
theorem SlotR.hold {K : PySem.W.Frag} {O0 O : List Addr} {H : Hp} {v : V} {s : Sl} (hs : s.Hold) (h : SlotR K O0 O H v s) : ∃ p, v = .ref p ∧ p ∈ O ∧ p ∉ O0 := by
  cases s with
  | d x => exact hs.elim
  | own xs => obtain ⟨p, vs, rfl, m, n, _⟩ := h; exact ⟨p, rfl, m, n⟩
  | dct ks => obtain ⟨p, _, vs, rfl, m, n, _⟩ := h; exact ⟨p, rfl, m, n⟩
  | dk ks => obtain ⟨p, vs, rfl, m, n, _⟩ := h; exact ⟨p, rfl, m, n⟩
  | exn a c dd e => exact hs.elim
theorem SlotR.mv {K : PySem.W.Frag} {O0 O O' : List Addr} {H H' : Hp} {v : V} {s : Sl} (sub : Sub (hide O H) (hide O' H')) (hm : s.Hold → ∀ p, v = .ref p → p ∈ O → p ∉ O0 → p ∈ O' ∧ ∀ o, H p = some o → (∀ ps, o ≠ .tbl ps) → H' p = some o)
    (hx : ∀ dd fs, H dd = some (.xd fs) → H' dd = some (.xd fs)) (h : SlotR K O0 O H v s) : SlotR K O0 O' H' v s := by
  cases s with
  | d x => exact Rp.mono sub h
  | own xs =>
    obtain ⟨p, vs, rfl, m, n, hp, z, r⟩ := h
    obtain ⟨m', k⟩ := hm trivial p rfl m n
    exact ⟨p, vs, rfl, m', n, k _ hp (fun _ q => by cases q), z, r.mono sub⟩
  | dct ks =>
    obtain ⟨p, ep, xs, rfl, m, n, hp, z, r⟩ := h
    obtain ⟨m', k⟩ := hm trivial p rfl m n
    exact ⟨p, ep, xs, rfl, m', n, k _ hp (fun _ q => by cases q), z, fun x hx => sub.sqT (r x hx)⟩
  | dk ks =>
    obtain ⟨p, kvs, rfl, m, n, hp, z, r⟩ := h
    obtain ⟨m', k⟩ := hm trivial p rfl m n
    exact ⟨p, kvs, rfl, m', n, k _ hp (fun _ q => by cases q), z, r.mono sub⟩
  | exn a c dd e => exact ⟨h.1, h.2.mv sub hx⟩
structure St0 (K : PySem.W.Frag) (Tb : List Addr) (H0 : Hp) (O0 O : List Addr) (H : Hp) (σ : L2.St) (ρ : Rho) : Prop where
  ext : Ext H0 H
  sub : ∀ b ∈ O0, b ∈ O
  new : ∀ b ∈ O, b ∉ O0 → H0 b = none
  al : ∀ b ∈ O, H b ≠ none
  tab : ∀ P ∈ Tb, TabC H P
  pln : ∀ b ∈ O, b ∉ O0 → ∃ o, H b = some o ∧ Plain o
  len : σ.length = ρ.length
  slot : ∀ (i : Nat) (s : Sl), ρ[i]? = some (some s) → ∃ v, σ[i]? = some (some v) ∧ SlotR K O0 O H v s
  inj : ∀ (i j : Nat) (p : Addr) (s t : Sl), s.Hold → t.Hold → ρ[i]? = some (some s) → ρ[j]? = some (some t) → σ[i]? = some (some (.ref p)) → σ[j]? = some (some (.ref p)) → i = j
section
variable {K : PySem.W.Frag} {Tb : List Addr} {H0 H H' : Hp} {O0 O : List Addr} {σ : L2.St} {ρ : Rho}
theorem St0.step (s : St0 K Tb H0 O0 O H σ ρ) (e : Ext H H') : St0 K Tb H0 O0 O H' σ ρ where
  ext := s.ext.trans e
  sub := s.sub
  new := s.new
  al := fun b m => e.al b (s.al b m)
  tab := fun P m => e.tab P (s.tab P m)
  pln := fun b m n => by
    obtain ⟨o, h, q⟩ := s.pln b m n
    exact ⟨o, e.keep b o h q.2, q⟩
  len := s.len
  slot := fun i x h => by
    obtain ⟨v, h1, h2⟩ := s.slot i x h
    exact ⟨v, h1, h2.mv (Sub.hide e.keep) (fun _ p _ m _ => ⟨m, fun o h n => e.keep p o h n⟩) fun dd fs h => e.keep dd _ h fun _ q => by cases q⟩
  inj := s.inj
theorem St0.hold (s : St0 K Tb H0 O0 O H σ ρ) {i : Nat} {x : Sl} {p : Addr} (hx : x.Hold) (h : ρ[i]? = some (some x)) (hp : σ[i]? = some (some (.ref p))) : p ∈ O ∧ p ∉ O0 := by
  obtain ⟨v, h1, h2⟩ := s.slot i x h
  obtain ⟨q, rfl, m, n⟩ := h2.hold hx
  rw [hp] at h1
  cases h1
  exact ⟨m, n⟩
/-- a new address is none of the hidden -/
theorem St0.fresh (s : St0 K Tb H0 O0 O H σ ρ) {p : Addr} (h : H p = none) : p ∉ O := fun m => s.al p m h
end
abbrev WX := L2.WX
def AftX (K : PySem.W.Frag) (O : List Addr) (H : Hp) (e : Ex) (W : Value → Option Addr → Hp → Prop) : Prop := ∀ cls d H', Ext H H' → ExR K (hide O H') H' cls d e → W cls d H'
/-- what is wanted of a result -/
def Post (K : PySem.W.Frag) (O : List Addr) {α β : Type} (Rl : Hp → β → α → Prop) (W : Value → Option Addr → Hp → Prop) (H : Hp) (x : R α) (Q : β → Hp → Prop) : Prop := match x with
  | .ok a => ∀ b H', Ext H H' → Rl H' b a → Q b H'
  | .exc e => AftX K O H e W
  | .bad => False
abbrev RlD (K : PySem.W.Frag) (O : List Addr) : Hp → V → PyData → Prop := fun H v d => Rp K (hide O H) v d
abbrev RlL (K : PySem.W.Frag) (O : List Addr) : Hp → List V → List PyData → Prop := fun H v d => RpAll K (hide O H) v d
abbrev RlB : Hp → Bool → Bool → Prop := fun _ b c => b = c
section
variable {K : PySem.W.Frag} {O : List Addr} {α α' β β' : Type} {Rl : Hp → β → α → Prop} {Rl' : Hp → β' → α' → Prop} {W : Value → Option Addr → Hp → Prop} {H H1 : Hp}
theorem Post.step {x : R α} {Q : β → Hp → Prop} (h : Post K O Rl W H x Q) (e : Ext H H1) : Post K O Rl W H1 x Q := by
  cases x with
  | ok a => exact fun b H' e' r => h b H' (e.trans e') r
  | exc x => exact fun c d H' e' r => h c d H' (e.trans e') r
  | bad => exact h
theorem Post.then {x : R α} {f : α → R α'} {Q : β → Hp → Prop} {Q' : β' → Hp → Prop} (h : Post K O Rl' W H (x >>= f) Q') (k : ∀ a b H1, Ext H H1 → Rl H1 b a → Post K O Rl' W H1 (f a) Q' → Q b H1) : Post K O Rl W H x Q := by
  cases x with
  | ok a => exact fun b H' e r => k a b H' e r (Post.step (show Post K O Rl' W H (f a) Q' from h) e)
  | exc x => exact h
  | bad => exact h
theorem Post.mono {x : R α} {Q Q' : β → Hp → Prop} (h : Post K O Rl W H x Q) (k : ∀ b H1, Q b H1 → Q' b H1) : Post K O Rl W H x Q' := by
  cases x with
  | ok a => exact fun b H' e r => k _ _ (h b H' e r)
  | exc x => exact h
  | bad => exact h
end
section
variable (K : PySem.W.Frag) (Tb : List Addr) (W : WX)
def tD (f : Rho → R PyData) : TE := fun σ H Q => ∃ H0 O0 O ρ, St0 K Tb H0 O0 O H σ ρ ∧ Post K O (RlD K O) (fun c d H => W c d σ H) H (f ρ) Q
def tDs (f : Rho → R (List PyData)) : TA := fun σ H Q => ∃ H0 O0 O ρ, St0 K Tb H0 O0 O H σ ρ ∧ Post K O (RlL K O) (fun c d H => W c d σ H) H (f ρ) Q
def tDT (f : Rho → R Bool) : TT := fun σ H Q => ∃ H0 O0 O ρ, St0 K Tb H0 O0 O H σ ρ ∧ Post K O RlB (fun c d H => W c d σ H) H (f ρ) Q
end
theorem _root_.L2.PE.by {X : Cx} {e : Expr} {t t' : TE} (h : PE X e t) (i : ∀ σ H Q, t' σ H Q → t σ H Q) : PE X e t' := ⟨fun pins s σ H Q I q => h.run pins s σ H Q I (i σ H Q q)⟩
theorem _root_.L2.PT.by {X : Cx} {e : Expr} {t t' : TT} (h : PT X e t) (i : ∀ σ H Q, t' σ H Q → t σ H Q) : PT X e t' := ⟨fun pins s σ H Q I q => h.run pins s σ H Q I (i σ H Q q)⟩
theorem _root_.L2.PW.by {X : Cx} {e : Expr} {t t' : TT} (h : PW X e t) (i : ∀ σ H Q, t' σ H Q → t σ H Q) : PW X e t' := ⟨fun wh pins s σ H Q I q => h.run wh pins s σ H Q I (i σ H Q q)⟩
theorem _root_.L2.PA.by {X : Cx} {e : List Expr} {t t' : TA} (h : PA X e t) (i : ∀ σ H Q, t' σ H Q → t σ H Q) : PA X e t' := ⟨fun pos pins s σ H Q I q => h.run pos pins s σ H Q I (i σ H Q q)⟩
theorem _root_.L2.PS.by {X : Cx} {e : Stmt} {t t' : TS} (h : PS X e t) (i : ∀ D σ H, t' D σ H → t D σ H) : PS X e t' := ⟨fun pins s σ H D I q => h.run pins s σ H D I (i D σ H q)⟩
theorem _root_.L2.PSs.by {X : Cx} {e : List Stmt} {t t' : TS} (h : PSs X e t) (i : ∀ D σ H, t' D σ H → t D σ H) : PSs X e t' := ⟨fun pins s σ H D I q => h.run pins s σ H D I (i D σ H q)⟩
end PD
set_option Elab.async false
set_option linter.all false
set_option maxRecDepth 100000
set_option maxHeartbeats 1000000
namespace PD
open PySem PySem.Spec PyProof.Rows L2
def oAdd : PyData → PyData → R PyData
  | .int i, .int j => .ok (.int (i + j))
  | .tuple xs, .tuple ys => if xs.length + ys.length ≤ sizeLine then .ok (.tuple (xs ++ ys)) else .bad
  | .list xs, .list ys => if xs.length + ys.length ≤ sizeLine then .ok (.list (xs ++ ys)) else .bad
  | _, _ => .bad
def oSub : PyData → PyData → R PyData
  | .int i, .int j => .ok (.int (i - j))
  | _, _ => .bad
instance (i j : Int) : Decidable (CMul i j) := by unfold CMul; infer_instance
instance (i j : Int) : Decidable (CPow i j) := by unfold CPow; infer_instance
instance (i j : Int) : Decidable (CDivN i j) := by unfold CDivN; infer_instance
def oMul : PyData → PyData → R PyData
  | .int i, .int j => if CMul i j then .ok (.int (i * j)) else .bad
  | _, _ => .bad
def oDiv : PyData → PyData → R PyData
  | .int i, .int j => if CDivN i j then .ok (.int (i.fdiv j)) else .bad
  | _, _ => .bad
def oMod : PyData → PyData → R PyData
  | .int i, .int j => if j ≠ 0 then .ok (.int (i.fmod j)) else .bad
  | _, _ => .bad
def oPow : PyData → PyData → R PyData
  | .int i, .int j => if CPow i j then .ok (.int (i ^ j.toNat)) else .bad
  | _, _ => .bad
def shp (d : PyData) : Bool := SeqAt.shaped d
def oEq (d e : PyData) : R PyData := if shp d = true ∧ shp e = true then .ok (.bool (PyData.eqv d e)) else .bad
def oNe (d e : PyData) : R PyData := if shp d = true ∧ shp e = true then .ok (.bool (!PyData.eqv d e)) else .bad
def oLt : PyData → PyData → R PyData
  | .int i, .int j => .ok (.bool (decide (i < j)))
  | _, _ => .bad
def oLe : PyData → PyData → R PyData
  | .int i, .int j => .ok (.bool (decide (i ≤ j)))
  | _, _ => .bad
def oGt : PyData → PyData → R PyData
  | .int i, .int j => .ok (.bool (decide (j < i)))
  | _, _ => .bad
def oGe : PyData → PyData → R PyData
  | .int i, .int j => .ok (.bool (decide (j ≤ i)))
  | _, _ => .bad
def items : PyData → R (List PyData)
  | .list xs => .ok xs
  | .tuple xs => .ok xs
  | _ => .bad
def inD (d : PyData) (xs : List PyData) : Bool := xs.any fun z => PyData.eqv z d
def oIn (d e : PyData) : R PyData := if shp d = true ∧ shp e = true then (do let xs ← items e; .ok (.bool (inD d xs))) else .bad
def oNotIn (d e : PyData) : R PyData := if shp d = true ∧ shp e = true then (do let xs ← items e; .ok (.bool (!inD d xs))) else .bad
def isNone : PyData → Bool
  | .none => true
  | _ => false
def oIx : PyData → PyData → R PyData
  | .list xs, .int i => match atI xs i with | some d => .ok d | none => .bad
  | .tuple xs, .int i => match atI xs i with | some d => .ok d | none => .bad
  | _, _ => .bad
def cutD (xs : List PyData) (lo hi : Option Int) : List PyData := (xs.drop (HT.sIx xs.length 0 lo)).take (HT.sIx xs.length xs.length hi - HT.sIx xs.length 0 lo)
def oCut (d : PyData) (lo hi : Option Int) : R PyData := match d with
  | .list xs => .ok (.list (cutD xs lo hi))
  | .tuple xs => .ok (.tuple (cutD xs lo hi))
  | _ => .bad
theorem cutD_length (xs : List PyData) (lo hi : Option Int) : (cutD xs lo hi).length ≤ xs.length := by
  unfold cutD
  rw [List.length_take, List.length_drop]
  omega
abbrev Dn := Rho → R PyData
abbrev DnL := Rho → R (List PyData)
abbrev DnB := Rho → R Bool
def dVar (i : Nat) : Dn := fun ρ => match ρ[i]? with
  | some (some (.d x)) => .ok x
  | _ => .bad
def dC (x : PyData) : Dn := fun _ => .ok x
def dOne (u : PyData → R PyData) (f : Dn) : Dn := fun ρ => f ρ >>= u
def dTwo (u : PyData → PyData → R PyData) (f g : Dn) : Dn := fun ρ => f ρ >>= fun a => g ρ >>= fun b => u a b
def dNil : DnL := fun _ => .ok []
def dCons (f : Dn) (g : DnL) : DnL := fun ρ => f ρ >>= fun a => g ρ >>= fun b => .ok (a :: b)
def dTup (g : DnL) : Dn := fun ρ => g ρ >>= fun xs => if xs.length ≤ sizeLine then .ok (.tuple xs) else .bad
def dLst (g : DnL) : Dn := fun ρ => g ρ >>= fun xs => if xs.length ≤ sizeLine then .ok (.list xs) else .bad
def dArg (m : List PyData → R PyData) (g : DnL) : Dn := fun ρ => g ρ >>= m
def asB : PyData → R Bool
  | .bool b => .ok b
  | _ => .bad
def dAsB (f : Dn) : DnB := fun ρ => f ρ >>= asB
def dAnd (f g : DnB) : DnB := fun ρ => f ρ >>= fun b => if b = true then g ρ else .ok false
def dOr (f g : DnB) : DnB := fun ρ => f ρ >>= fun b => if b = true then .ok true else g ρ
def dNot (f : DnB) : DnB := fun ρ => f ρ >>= fun b => .ok (!b)
def dAndV (f g : Dn) : Dn := fun ρ => f ρ >>= fun a => asB a >>= fun b => if b = true then g ρ else .ok (.bool false)
def dOrV (f g : Dn) : Dn := fun ρ => f ρ >>= fun a => asB a >>= fun b => if b = true then .ok (.bool true) else g ρ
def dNotV (f : Dn) : Dn := fun ρ => f ρ >>= fun a => asB a >>= fun b => .ok (.bool (!b))
def dIf (c : DnB) (f g : Dn) : Dn := fun ρ => c ρ >>= fun b => if b = true then f ρ else g ρ
def asI : PyData → R Int
  | .int i => .ok i
  | _ => .bad
abbrev DnO := Rho → R (Option Int)
def dNoP : DnO := fun _ => .ok none
def dPart (f : Dn) : DnO := fun ρ => f ρ >>= fun a => asI a >>= fun i => .ok (some i)
def dCut (f : Dn) (lo hi : DnO) : Dn := fun ρ => f ρ >>= fun a => lo ρ >>= fun l => hi ρ >>= fun h => oCut a l h
section
variable {X : Cx} {Tb : List Addr} {W : WX} {K : PySem.W.Frag} {O : List Addr} {H : Hp} {σ : L2.St} {Wx : Value → Option Addr → Hp → Prop}
def Al (O : List Addr) (H : Hp) : Prop := ∀ b ∈ O, H b ≠ none
/-- a new tuple, a new list -/
theorem Post.newTup {xs : List V} {ds : List PyData} {Q : VK} (al : Al O H) (h : Post K O (RlD K O) Wx H (.ok (.tuple ds)) Q) (z : ds.length ≤ sizeLine) (r : RpAll K (hide O H) xs ds) : ∀ p, H p = none → Q (.ref p) (upd H p (.tup xs)) := fun p hp => by
  have n : p ∉ O := fun m => al p m hp
  refine h _ _ (Ext.new hp) (.tup (.of (by rw [hide_out n, upd_same])) z (r.mono (Sub.hide (Ext.new hp).keep)))
theorem Post.newLst {xs : List V} {ds : List PyData} {Q : VK} (al : Al O H) (h : Post K O (RlD K O) Wx H (.ok (.list ds)) Q) (z : ds.length ≤ sizeLine) (r : RpAll K (hide O H) xs ds) : ∀ p, H p = none → Q (.ref p) (upd H p (.lst xs)) := fun p hp => by
  have n : p ∉ O := fun m => al p m hp
  refine h _ _ (Ext.new hp) (.lst (.of (by rw [hide_out n, upd_same])) z (r.mono (Sub.hide (Ext.new hp).keep)))
theorem Post.here {d : PyData} {v : V} {Q : VK} (h : Post K O (RlD K O) Wx H (.ok d) Q) (r : Rp K (hide O H) v d) : Q v H := h v H (Ext.refl H) r
def Ok2 (K : PySem.W.Frag) (r : R2) (u : PyData → PyData → R PyData) : Prop := ∀ (O : List Addr) (H : Hp) (Wx : Value → Option Addr → Hp → Prop) (x y : V) (d e : PyData) (Q : VK), Al O H → Rp K (hide O H) x d → Rp K (hide O H) y e → Post K O (RlD K O) Wx H (u d e) Q → r x y H Q
def OkL (K : PySem.W.Frag) (r : List V → Hp → VK → Prop) (u : List PyData → R PyData) : Prop := ∀ (O : List Addr) (H : Hp) (Wx : Value → Option Addr → Hp → Prop) (vs : List V) (ds : List PyData) (Q : VK), Al O H → RpAll K (hide O H) vs ds → Post K O (RlD K O) Wx H (u ds) Q → r vs H Q
theorem tD_two {r : R2} {u : PyData → PyData → R PyData} {f g : Dn} {Q : VK} (hr : Ok2 K r u) (h : tD K Tb W (dTwo u f g) σ H Q) : tOp r (tD K Tb W f) (tD K Tb W g) σ H Q := by
  obtain ⟨H0, O0, O, ρ, st, h⟩ := h
  refine ⟨H0, O0, O, ρ, st, Post.then h fun d v H1 e r1 k => ?_⟩
  refine ⟨H0, O0, O, ρ, st.step e, Post.then k fun d2 v2 H2 e2 r2 k2 => ?_⟩
  exact hr O H2 _ v v2 d d2 Q ((st.step e).step e2).al (r1.mono (Sub.hide e2.keep)) r2 k2
theorem tD_arg {r : List V → Hp → VK → Prop} {u : List PyData → R PyData} {g : DnL} {Q : VK} (hr : OkL K r u) (h : tD K Tb W (dArg u g) σ H Q) : tCB r (tDs K Tb W g) σ H Q := by
  obtain ⟨H0, O0, O, ρ, st, h⟩ := h
  exact ⟨H0, O0, O, ρ, st, Post.then h fun d v H1 e r1 k => hr O H1 _ v d Q (st.step e).al r1 k⟩
theorem fd_var (i : Nat) {x : Str} {pos : Pos} (hN : X.N[i]? = some x := by rfl) (hv : Vis X.env.scope x := by first | exact Or.inl rfl | exact Or.inr (Or.inl rfl) | exact Or.inr (Or.inr rfl)) (hd : (x == ("__debug__" : Str)) = false := by decide)
    (hcd : (x == ("__classdict__" : Str)) = false := by decide) : PE X (.Name x pos) (tD X.K Tb W (dVar i)) := (pv i hN hv hd hcd).by fun σ H Q h => by
  obtain ⟨H0, O0, O, ρ, st, h⟩ := h
  unfold dVar at h
  split at h
  · rename_i x e
    obtain ⟨v, h1, h2⟩ := st.slot i _ e
    exact ⟨v, h1, Post.here h h2⟩
  · exact h.elim
theorem fd_int {i : Int} {j pos} : PE X (.Constant (.int i) j pos) (tD X.K Tb W (dC (.int i))) := pe_int.by fun σ H Q ⟨_, _, _, _, _, h⟩ => Post.here h (.int i)
theorem fd_bl {b : Bool} {j pos} : PE X (.Constant (.bool b) j pos) (tD X.K Tb W (dC (.bool b))) := pe_bl.by fun σ H Q ⟨_, _, _, _, _, h⟩ => Post.here h (.bl b)
theorem fd_non {j pos} : PE X (.Constant .none j pos) (tD X.K Tb W (dC .none)) := pe_non.by fun σ H Q ⟨_, _, _, _, _, h⟩ => Post.here h .non
theorem fd_str {x : Str} {j pos} : PE X (.Constant (.str x) j pos) (tD X.K Tb W (dC (.str x))) := pe_str.by fun σ H Q ⟨_, _, _, _, _, h⟩ => Post.here h (.str x)
theorem fa_nil : PA X [] (tDs X.K Tb W dNil) := pa_nil.by fun σ H Q ⟨_, _, _, _, _, h⟩ => h [] H (Ext.refl H) .nil
theorem fa_cons {e : Expr} {es : List Expr} {f : Dn} {g : DnL} (ha : PE X e (tD X.K Tb W f)) (hr : PA X es (tDs X.K Tb W g)) (hs : starEach (e :: es) X.env = (false, eval e X.env) :: starEach es X.env := by rfl) : PA X (e :: es) (tDs X.K Tb W (dCons f g)) :=
  (pa_cons ha hr hs).by fun σ H Q h => by
    obtain ⟨H0, O0, O, ρ, st, h⟩ := h
    refine ⟨H0, O0, O, ρ, st, Post.then h fun d v H1 e r1 k => ?_⟩
    refine ⟨H0, O0, O, ρ, st.step e, Post.then k fun d2 v2 H2 e2 r2 k2 => ?_⟩
    exact k2 _ H2 (Ext.refl _) (.cons (r1.mono (Sub.hide e2.keep)) r2)
theorem fd_tup {es : List Expr} {g : DnL} {x1} {pos : Pos} (h : PA X es (tDs X.K Tb W g)) : PE X (.Tuple es x1 pos) (tD X.K Tb W (dTup g)) := (pe_tup h).by fun σ H Q h => by
  obtain ⟨H0, O0, O, ρ, st, h⟩ := h
  refine ⟨H0, O0, O, ρ, st, Post.then h fun d v H1 e r1 k => ?_⟩
  split at k
  · rename_i z
    exact ⟨by rw [r1.length]; exact z, Post.newTup (st.step e).al k z r1⟩
  · exact k.elim
theorem fd_lst {es : List Expr} {g : DnL} {pos : Pos} (h : PA X es (tDs X.K Tb W g)) : PE X (.List es pos) (tD X.K Tb W (dLst g)) := (pe_lst h).by fun σ H Q h => by
  obtain ⟨H0, O0, O, ρ, st, h⟩ := h
  refine ⟨H0, O0, O, ρ, st, Post.then h fun d v H1 e r1 k => ?_⟩
  split at k
  · rename_i z
    exact ⟨by rw [r1.length]; exact z, Post.newLst (st.step e).al k z r1⟩
  · exact k.elim
def rCatS (K : PySem.W.Frag) : R2 := fun x y H Q => ∃ l b xs zs, x = .ref l ∧ y = .ref b ∧ SqL K H l xs ∧ SqL K H b zs ∧ xs.length + zs.length ≤ sizeLine ∧ ∀ p, H p = none → Q (.ref p) (upd H p (.lst (xs ++ zs)))
theorem op_catS : OpR X (binaryOp .Add) (rCatS X.K) := by
  intro pins s σ H x y v u Q I rx ry h
  obtain ⟨l, b, xs, zs, rfl, rfl, hH, hB, hz, q⟩ := h
  cases rx
  cases ry
  obtain ⟨its, r, ⟨⟨cls, dd, data, sl⟩, n, ho, hc, hdd, hd⟩, _⟩ := I.list hH
  obtain ⟨its2, r2, ⟨⟨cls2, dd2, data2, sl2⟩, n2, ho2, hc2, hdd2, hd2⟩, _⟩ := I.list hB
  simp only at hc hdd hd hc2 hdd2 hd2
  subst hc hdd hd hc2 hdd2 hd2
  have l1 := r.length
  have l2 := r2.length
  have e : its.toArray ++ its2.toArray = (its ++ its2).toArray := by simp
  refine concat_meets ⟨_, ho, rfl⟩ ⟨_, ho2, rfl⟩ noFill_list_add seq_list_add PySem.F.slot_list_add PySem.F.entry_list_add (PySem.F.args_list_add_2 _ _) (list_addW l b its.toArray its2.toArray n n2 none none sl sl2 (by rw [List.size_toArray, List.size_toArray]; omega)) ⟨ho, ho2, ?_⟩
  rw [e]
  exact ⟨.ref _, _, I.lnew (t' := s.toks) (r.append r2) (by rw [List.length_append]; omega), rfl, q _ I.fresh⟩
theorem opR_or {f : Value → Value → Sem Value} {r r' : R2} (h : OpR X f r) (h' : OpR X f r') : OpR X f (fun x y H Q => r x y H Q ∨ r' x y H Q) := by
  intro pins s σ H x y v u Q I rx ry q
  rcases q with q | q
  · exact h pins s σ H x y v u Q I rx ry q
  · exact h' pins s σ H x y v u Q I rx ry q
theorem ok_add : Ok2 K (fun x y H Q => rI0 (fun i j => .int (i + j)) x y H Q ∨ (rCatA K x y H Q ∨ rCatS K x y H Q)) oAdd := by
  intro O H Wx x y d e Q al hx hy h
  unfold oAdd at h
  split at h
  · cases hx; cases hy
    exact .inl ⟨_, _, rfl, rfl, Post.here h (.int _)⟩
  · split at h
    · rename_i z
      cases hx with
      | tup h1 z1 a1 =>
        cases hy with
        | tup h2 z2 a2 =>
          refine .inr (.inl ⟨_, _, _, _, rfl, rfl, Sub.unhide.sqT h1, Sub.unhide.sqT h2, by rw [a1.length, a2.length]; exact z, fun e0 => ?_, fun _ e0 => ?_, fun _ _ => ?_⟩)
          · subst e0
            cases a1
            exact Post.here h (.tup h2 z2 a2)
          · subst e0
            cases a2
            rw [List.append_nil] at h
            exact Post.here h (.tup h1 z1 a1)
          · exact Post.newTup al h (by rw [List.length_append]; exact z) (a1.append a2)
    · exact h.elim
  · split at h
    · rename_i z
      cases hx with
      | lst h1 z1 a1 =>
        cases hy with
        | lst h2 z2 a2 =>
          exact .inr (.inr ⟨_, _, _, _, rfl, rfl, Sub.unhide.sqL h1, Sub.unhide.sqL h2, by rw [a1.length, a2.length]; exact z, Post.newLst al h (by rw [List.length_append]; exact z) (a1.append a2)⟩)
    · exact h.elim
  · exact h.elim
theorem ok_sub : Ok2 K (rI0 fun i j => .int (i - j)) oSub := by
  intro O H Wx x y d e Q al hx hy h
  unfold oSub at h
  split at h
  · cases hx; cases hy
    exact ⟨_, _, rfl, rfl, Post.here h (.int _)⟩
  · exact h.elim
theorem ok_mul : Ok2 K (rI CMul fun i j => .int (i * j)) oMul := by
  intro O H Wx x y d e Q al hx hy h
  unfold oMul at h
  split at h
  · cases hx; cases hy
    split at h
    · exact ⟨_, _, rfl, rfl, by assumption, Post.here h (.int _)⟩
    · exact h.elim
  · exact h.elim
theorem ok_div : Ok2 K (rI CDivN fun i j => .int (i.fdiv j)) oDiv := by
  intro O H Wx x y d e Q al hx hy h
  unfold oDiv at h
  split at h
  · cases hx; cases hy
    split at h
    · exact ⟨_, _, rfl, rfl, by assumption, Post.here h (.int _)⟩
    · exact h.elim
  · exact h.elim
theorem ok_mod : Ok2 K (rI (fun _ j => j ≠ 0) fun i j => .int (i.fmod j)) oMod := by
  intro O H Wx x y d e Q al hx hy h
  unfold oMod at h
  split at h
  · cases hx; cases hy
    split at h
    · exact ⟨_, _, rfl, rfl, by assumption, Post.here h (.int _)⟩
    · exact h.elim
  · exact h.elim
theorem ok_pow : Ok2 K (rI CPow fun i j => .int (i ^ j.toNat)) oPow := by
  intro O H Wx x y d e Q al hx hy h
  unfold oPow at h
  split at h
  · cases hx; cases hy
    split at h
    · exact ⟨_, _, rfl, rfl, by assumption, Post.here h (.int _)⟩
    · exact h.elim
  · exact h.elim
variable {a b c : Expr} {f g : Dn} {pos : Pos}
theorem fd_add (ha : PE X a (tD X.K Tb W f)) (hb : PE X b (tD X.K Tb W g)) : PE X (.BinOp a .Add b pos) (tD X.K Tb W (dTwo oAdd f g)) := (pe_op (opR_or op_add (opR_or op_catA op_catS)) ha hb).by fun σ H Q h => tD_two ok_add h
theorem fd_sub (ha : PE X a (tD X.K Tb W f)) (hb : PE X b (tD X.K Tb W g)) : PE X (.BinOp a .Sub b pos) (tD X.K Tb W (dTwo oSub f g)) := (pe_op op_sub ha hb).by fun σ H Q h => tD_two ok_sub h
theorem fd_mul (ha : PE X a (tD X.K Tb W f)) (hb : PE X b (tD X.K Tb W g)) : PE X (.BinOp a .Mult b pos) (tD X.K Tb W (dTwo oMul f g)) := (pe_op op_mul ha hb).by fun σ H Q h => tD_two ok_mul h
theorem fd_div (ha : PE X a (tD X.K Tb W f)) (hb : PE X b (tD X.K Tb W g)) : PE X (.BinOp a .FloorDiv b pos) (tD X.K Tb W (dTwo oDiv f g)) := (pe_op op_fdivN ha hb).by fun σ H Q h => tD_two ok_div h
theorem fd_mod (ha : PE X a (tD X.K Tb W f)) (hb : PE X b (tD X.K Tb W g)) : PE X (.BinOp a .Mod b pos) (tD X.K Tb W (dTwo oMod f g)) := (pe_op op_modN ha hb).by fun σ H Q h => tD_two ok_mod h
theorem fd_pow (ha : PE X a (tD X.K Tb W f)) (hb : PE X b (tD X.K Tb W g)) : PE X (.BinOp a .Pow b pos) (tD X.K Tb W (dTwo oPow f g)) := (pe_op op_pow ha hb).by fun σ H Q h => tD_two ok_pow h
theorem ok_eq : Ok2 K (rEqD K) oEq := by
  intro O H Wx x y d e Q al hx hy h
  unfold oEq at h
  split at h
  · rename_i z
    exact ⟨d, e, (hx.mono Sub.unhide).dp (nod_of_lay (SeqAt.canLay_of_shaped z.1)), (hy.mono Sub.unhide).dp (nod_of_lay (SeqAt.canLay_of_shaped z.2)), z.1, z.2, Post.here h (.bl _)⟩
  · exact h.elim
theorem ok_ne : Ok2 K (rNeD K) oNe := by
  intro O H Wx x y d e Q al hx hy h
  unfold oNe at h
  split at h
  · rename_i z
    exact ⟨d, e, (hx.mono Sub.unhide).dp (nod_of_lay (SeqAt.canLay_of_shaped z.1)), (hy.mono Sub.unhide).dp (nod_of_lay (SeqAt.canLay_of_shaped z.2)), z.1, z.2, Post.here h (.bl _)⟩
  · exact h.elim
def rInS (K : PySem.W.Frag) (neg : Bool) : R2 := fun x y H Q => ∃ d e ds, Dp K H x d ∧ Dp K H y e ∧ items e = .ok ds ∧ SeqAt.shaped d = true ∧ SeqAt.shaped e = true ∧ Q (.bl (if neg then !inD d ds else inD d ds)) H
theorem op_inS (hu : X.A.units + 65 < cLine) : OpR X (compareOp .In) (rInS X.K false) := by
  intro pins s σ H x y v u Q I rx ry h
  obtain ⟨d, e, ds, hd, he, hi, sd, se, q⟩ := h
  obtain ⟨as, r1⟩ := Dp.reads I d x v hd rx
  obtain ⟨bs, r2⟩ := Dp.reads I e y u he ry
  unfold items at hi
  split at hi
  · cases hi
    exact SeqAt.in_list_reads r2 r1 (SeqAt.canLay_of_shaped se) (SeqAt.canLay_of_shaped sd) (room_in_shaped sd hu) ⟨.bl _, H, I, rfl, q⟩
  · cases hi
    exact SeqAt.in_tuple_reads r2 r1 (SeqAt.canLay_of_shaped se) (SeqAt.canLay_of_shaped sd) (room_in_shaped sd hu) ⟨.bl _, H, I, rfl, q⟩
  · cases hi
theorem op_notInS (hu : X.A.units + 65 < cLine) : OpR X (compareOp .NotIn) (rInS X.K true) := by
  intro pins s σ H x y v u Q I rx ry h
  obtain ⟨d, e, ds, hd, he, hi, sd, se, q⟩ := h
  obtain ⟨as, r1⟩ := Dp.reads I d x v hd rx
  obtain ⟨bs, r2⟩ := Dp.reads I e y u he ry
  unfold items at hi
  split at hi
  · cases hi
    exact SeqAt.notIn_list_reads r2 r1 (SeqAt.canLay_of_shaped se) (SeqAt.canLay_of_shaped sd) (room_in_shaped sd hu) ⟨.bl _, H, I, rfl, q⟩
  · cases hi
    exact SeqAt.notIn_tuple_reads r2 r1 (SeqAt.canLay_of_shaped se) (SeqAt.canLay_of_shaped sd) (room_in_shaped sd hu) ⟨.bl _, H, I, rfl, q⟩
  · cases hi
theorem ok_in : Ok2 K (rInS K false) oIn := by
  intro O H Wx x y d e Q al hx hy h
  unfold oIn at h
  split at h
  · rename_i z
    cases hi : items e with
    | ok ds =>
      rw [hi] at h
      exact ⟨d, e, ds, (hx.mono Sub.unhide).dp (nod_of_lay (SeqAt.canLay_of_shaped z.1)), (hy.mono Sub.unhide).dp (nod_of_lay (SeqAt.canLay_of_shaped z.2)), hi, z.1, z.2, Post.here h (.bl _)⟩
    | exc x => cases e <;> cases hi
    | bad => rw [hi] at h; exact h.elim
  · exact h.elim
theorem ok_notIn : Ok2 K (rInS K true) oNotIn := by
  intro O H Wx x y d e Q al hx hy h
  unfold oNotIn at h
  split at h
  · rename_i z
    cases hi : items e with
    | ok ds =>
      rw [hi] at h
      exact ⟨d, e, ds, (hx.mono Sub.unhide).dp (nod_of_lay (SeqAt.canLay_of_shaped z.1)), (hy.mono Sub.unhide).dp (nod_of_lay (SeqAt.canLay_of_shaped z.2)), hi, z.1, z.2, Post.here h (.bl _)⟩
    | exc x => cases e <;> cases hi
    | bad => rw [hi] at h; exact h.elim
  · exact h.elim
theorem ok_cmp {p : Int → Int → Bool} {u : PyData → PyData → R PyData} (hu : ∀ d e, (∃ i j, d = .int i ∧ e = .int j ∧ u d e = .ok (.bool (p i j))) ∨ u d e = .bad) : Ok2 K (rI0 fun i j => .bl (p i j)) u := by
  intro O H Wx x y d e Q al hx hy h
  rcases hu d e with ⟨i, j, rfl, rfl, q⟩ | q
  · rw [q] at h
    cases hx; cases hy
    exact ⟨_, _, rfl, rfl, Post.here h (.bl _)⟩
  · rw [q] at h
    exact h.elim
theorem ok_lt : Ok2 K (rI0 fun i j => .bl (decide (i < j))) oLt := ok_cmp fun d e => by unfold oLt; split; exact .inl ⟨_, _, rfl, rfl, rfl⟩; exact .inr rfl
theorem ok_le : Ok2 K (rI0 fun i j => .bl (decide (i ≤ j))) oLe := ok_cmp fun d e => by unfold oLe; split; exact .inl ⟨_, _, rfl, rfl, rfl⟩; exact .inr rfl
theorem ok_gt : Ok2 K (rI0 fun i j => .bl (decide (j < i))) oGt := ok_cmp (p := fun i j => decide (j < i)) fun d e => by unfold oGt; split; exact .inl ⟨_, _, rfl, rfl, rfl⟩; exact .inr rfl
theorem ok_ge : Ok2 K (rI0 fun i j => .bl (decide (j ≤ i))) oGe := ok_cmp (p := fun i j => decide (j ≤ i)) fun d e => by unfold oGe; split; exact .inl ⟨_, _, rfl, rfl, rfl⟩; exact .inr rfl
/-- a comparison, by its rule -/
theorem fd_cmp {op : CmpOp} {r : R2} {u : PyData → PyData → R PyData} (ho : OpR X (compareOp op) r) (hk : Ok2 X.K r u) (ha : PE X a (tD X.K Tb W f)) (hb : PE X b (tD X.K Tb W g)) (hm : behindInMarks op b = false) : PE X (.Compare a [op] [b] pos) (tD X.K Tb W (dTwo u f g)) :=
  (pe_cmpR ho ha hb hm).by fun σ H Q h => tD_two hk h
theorem Post.asB {x : R PyData} {Q : Bool → Hp → Prop} (h : Post K O RlB Wx H (x >>= asB) Q) : Post K O (RlD K O) Wx H x (fun v H1 => ∃ k, v = .bl k ∧ Q k H1) := by
  refine Post.then h fun d v H1 e r k => ?_
  unfold PD.asB at k
  split at k
  · cases r
    exact ⟨_, rfl, k _ H1 (Ext.refl _) rfl⟩
  · exact k.elim
theorem ft_cmp {op : CmpOp} {r : R2} {u : PyData → PyData → R PyData} (ho : OpR X (compareOp op) r) (hk : Ok2 X.K r u) (ha : PE X a (tD X.K Tb W f)) (hb : PE X b (tD X.K Tb W g)) (hm : behindInMarks op b = false) : PT X (.Compare a [op] [b] pos) (tDT X.K Tb W (dAsB (dTwo u f g))) :=
  (pt_cmpR ho ha hb hm).by fun σ H Q ⟨H0, O0, O, ρ, st, h⟩ => tD_two (Tb := Tb) (W := W) hk ⟨H0, O0, O, ρ, st, Post.asB h⟩
/-- a test by an expression whose value is a bool -/
theorem ft_val (ha : PE X a (tD X.K Tb W f)) (he : ∀ whole, isTrue a X.env whole = (do let v ← whole; standAt a.pos; holding [v] (truthy v)) := by intro _; rfl) : PT X a (tDT X.K Tb W (dAsB f)) :=
  (pt_val ha he).by fun σ H Q ⟨H0, O0, O, ρ, st, h⟩ => ⟨H0, O0, O, ρ, st, (Post.asB h).mono fun b H1 q => q⟩
variable {fb gb : DnB} {rest : List Expr}
theorem fw_and1 (ha : PT X a (tDT X.K Tb W fb)) : PW X (.BoolOp .And [a] pos) (tDT X.K Tb W fb) := pw_and1 ha
theorem fw_or1 (ha : PT X a (tDT X.K Tb W fb)) : PW X (.BoolOp .Or [a] pos) (tDT X.K Tb W fb) := pw_or1 ha
theorem fw_and (ha : PT X a (tDT X.K Tb W fb)) (hb : PW X (.BoolOp .And (b :: rest) pos) (tDT X.K Tb W gb)) : PW X (.BoolOp .And (a :: b :: rest) pos) (tDT X.K Tb W (dAnd fb gb)) :=
  (pw_and ha hb).by fun σ H Q ⟨H0, O0, O, ρ, st, h⟩ => ⟨H0, O0, O, ρ, st, by
    refine Post.then h fun d v H1 e r k => ?_
    cases (show v = d from r)
    cases d with
    | true => exact ⟨H0, O0, O, ρ, st.step e, k⟩
    | false => exact k _ H1 (Ext.refl _) rfl⟩
theorem fw_or (ha : PT X a (tDT X.K Tb W fb)) (hb : PW X (.BoolOp .Or (b :: rest) pos) (tDT X.K Tb W gb)) : PW X (.BoolOp .Or (a :: b :: rest) pos) (tDT X.K Tb W (dOr fb gb)) :=
  (pw_or ha hb).by fun σ H Q ⟨H0, O0, O, ρ, st, h⟩ => ⟨H0, O0, O, ρ, st, by
    refine Post.then h fun d v H1 e r k => ?_
    cases (show v = d from r)
    cases d with
    | false => exact ⟨H0, O0, O, ρ, st.step e, k⟩
    | true => exact k _ H1 (Ext.refl _) rfl⟩
theorem ft_not (ha : PT X a (tDT X.K Tb W fb)) : PT X (.UnaryOp .Not a pos) (tDT X.K Tb W (dNot fb)) := (pt_not ha).by fun σ H Q ⟨H0, O0, O, ρ, st, h⟩ => ⟨H0, O0, O, ρ, st, by
    refine Post.then h fun d v H1 e r k => ?_
    cases (show v = d from r)
    exact k _ H1 (Ext.refl _) rfl⟩
theorem fd_one {op} (h : PE X a (tD X.K Tb W f)) : PE X (.BoolOp op [a] pos) (tD X.K Tb W f) := pe_one h
theorem asB_of {d : PyData} {v : V} {α β : Type} {Rl : Hp → β → α → Prop} {k : Bool → R α} {Q : β → Hp → Prop} {G : Hp} (r : Rp K G v d) (h : Post K O Rl Wx H (asB d >>= k) Q) : ∃ b, v = .bl b ∧ Post K O Rl Wx H (k b) Q := by
  unfold asB at h
  split at h
  · cases r; exact ⟨_, rfl, h⟩
  · exact h.elim
theorem fd_and (ha : PE X a (tD X.K Tb W f)) (hb : PE X (.BoolOp .And (b :: rest) pos) (tD X.K Tb W g)) : PE X (.BoolOp .And (a :: b :: rest) pos) (tD X.K Tb W (dAndV f g)) :=
  (pe_and ha hb).by fun σ H Q ⟨H0, O0, O, ρ, st, h⟩ => ⟨H0, O0, O, ρ, st, by
    refine Post.then h fun d v H1 e r k => ?_
    obtain ⟨b, rfl, k⟩ := asB_of r k
    refine ⟨b, rfl, ?_⟩
    cases b with
    | true => exact ⟨H0, O0, O, ρ, st.step e, k⟩
    | false => exact Post.here k (.bl _)⟩
theorem fd_not (ha : PE X a (tD X.K Tb W f)) : PE X (.UnaryOp .Not a pos) (tD X.K Tb W (dNotV f)) := (pe_not ha).by fun σ H Q ⟨H0, O0, O, ρ, st, h⟩ => ⟨H0, O0, O, ρ, st, by
    refine Post.then h fun d v H1 e r k => ?_
    obtain ⟨b, rfl, k⟩ := asB_of r k
    exact ⟨b, rfl, Post.here k (.bl _)⟩⟩
theorem fd_if (hc : PT X c (tDT X.K Tb W fb)) (ha : PE X a (tD X.K Tb W f)) (hb : PE X b (tD X.K Tb W g)) : PE X (.IfExp c a b pos) (tD X.K Tb W (dIf fb f g)) := (pe_ifExp hc ha hb).by fun σ H Q ⟨H0, O0, O, ρ, st, h⟩ => ⟨H0, O0, O, ρ, st, by
    refine Post.then h fun d v H1 e r k => ?_
    cases (show v = d from r)
    cases d with
    | true => exact ⟨H0, O0, O, ρ, st.step e, k⟩
    | false => exact ⟨H0, O0, O, ρ, st.step e, k⟩⟩
theorem atI_rp {G : Hp} {vs : List V} {ds : List PyData} {i : Int} {d : PyData} (r : RpAll K G vs ds) (h : atI ds i = some d) : ∃ v, atI vs i = some v ∧ Rp K G v d := by
  unfold atI at h ⊢
  rw [r.length]
  cases e : ixN ds.length i with
  | none => rw [e] at h; cases h
  | some j =>
    rw [e] at h
    exact r.get' h
theorem ok_ix : Ok2 K (rIx K) oIx := by
  intro O H Wx x y d e Q al hx hy h
  unfold oIx at h
  split at h
  · cases hy
    cases hx with
    | lst h1 z1 a1 =>
      split at h
      · rename_i e
        obtain ⟨v, h2, h3⟩ := atI_rp a1 e
        exact .inl ⟨_, _, _, v, rfl, rfl, Sub.unhide.sqL h1, h2, Post.here h h3⟩
      · exact h.elim
  · cases hy
    cases hx with
    | tup h1 z1 a1 =>
      split at h
      · rename_i e
        obtain ⟨v, h2, h3⟩ := atI_rp a1 e
        exact .inr (.inl ⟨_, _, _, v, rfl, rfl, Sub.unhide.sqT h1, h2, Post.here h h3⟩)
      · exact h.elim
  · exact h.elim
theorem fd_ix (ha : PE X a (tD X.K Tb W f)) (hb : PE X b (tD X.K Tb W g)) (hs : PlainIx b) : PE X (.Subscript a b pos) (tD X.K Tb W (dTwo oIx f g)) := (pe_ix ix_seq ha hb hs).by fun σ H Q h => tD_two ok_ix h
def tDO (K : PySem.W.Frag) (Tb : List Addr) (W : WX) (f : DnO) : TO := fun σ H Q => ∃ H0 O0 O ρ, St0 K Tb H0 O0 O H σ ρ ∧ Post K O (fun _ (x : Option Int) y => x = y) (fun c d H => W c d σ H) H (f ρ) Q
theorem _root_.L2.PO.by {X : Cx} {e : Option Expr} {t t' : TO} (h : PO X e t) (i : ∀ σ H Q, t' σ H Q → t σ H Q) : PO X e t' := ⟨fun pins s σ H Q I q => h.run pins s σ H Q I (i σ H Q q)⟩
theorem fo_none : PO X none (tDO X.K Tb W dNoP) := PO.by po_none fun σ H Q ⟨_, _, _, _, _, h⟩ => h none H (Ext.refl _) rfl
theorem asI_of {d : PyData} {v : V} {α β : Type} {Rl : Hp → β → α → Prop} {k : Int → R α} {Q : β → Hp → Prop} {G : Hp} (r : Rp K G v d) (h : Post K O Rl Wx H (asI d >>= k) Q) : ∃ b, v = .int b ∧ Post K O Rl Wx H (k b) Q := by
  unfold asI at h
  split at h
  · cases r; exact ⟨_, rfl, h⟩
  · exact h.elim
theorem fo_some (ha : PE X a (tD X.K Tb W f)) : PO X (some a) (tDO X.K Tb W (dPart f)) := PO.by (po_some ha) fun σ H Q ⟨H0, O0, O, ρ, st, h⟩ => ⟨H0, O0, O, ρ, st, by
    refine Post.then h fun d v H1 e r k => ?_
    obtain ⟨b, rfl, k⟩ := asI_of r k
    exact ⟨b, rfl, k _ H1 (Ext.refl _) rfl⟩⟩
theorem cut_rp {G : Hp} {vs : List V} {ds : List PyData} (lo hi : Option Int) (r : RpAll K G vs ds) : RpAll K G (cutV vs lo hi) (cutD ds lo hi) := by
  unfold cutV cutD
  rw [r.length]
  exact (r.drop _).take _
theorem fd_cut {lo hi : Option Expr} {fl fh : DnO} {p2 : Pos} (ha : PE X a (tD X.K Tb W f)) (hl : PO X lo (tDO X.K Tb W fl)) (hh : PO X hi (tDO X.K Tb W fh)) : PE X (.Subscript a (.Slice lo hi none p2) pos) (tD X.K Tb W (dCut f fl fh)) :=
  (pe_slice (SlR.or sl_list sl_tupA) ha hl hh).by fun σ H Q ⟨H0, O0, O, ρ, st, h⟩ => ⟨H0, O0, O, ρ, st, by
    refine Post.then h fun d v H1 e r k => ?_
    refine ⟨H0, O0, O, ρ, st.step e, Post.then k fun l l' H2 e2 r2 k2 => ?_⟩
    cases (show l' = l from r2)
    refine ⟨H0, O0, O, ρ, (st.step e).step e2, Post.then k2 fun u u' H3 e3 r3 k3 => ?_⟩
    cases (show u' = u from r3)
    have r' := r.mono (Sub.hide (e2.trans e3).keep)
    have al := (((st.step e).step e2).step e3).al
    unfold oCut at k3
    split at k3
    · cases r' with
      | lst h1 z1 a1 => exact .inl ⟨_, _, rfl, Sub.unhide.sqL h1, Post.newLst al k3 (Nat.le_trans (cutD_length _ _ _) z1) (cut_rp _ _ a1)⟩
    · cases r' with
      | tup h1 z1 a1 =>
        refine .inr ⟨_, _, rfl, Sub.unhide.sqT h1, fun hw => ?_, fun _ => Post.newTup al k3 (Nat.le_trans (cutD_length _ _ _) z1) (cut_rp _ _ a1)⟩
        refine Post.here k3 ?_
        rw [a1.length] at hw
        unfold cutD
        rw [hw.1, hw.2, List.drop_zero, Nat.sub_zero, List.take_length]
        exact .tup h1 z1 a1
    · exact k3.elim⟩
end
end PD
set_option Elab.async false
set_option linter.all false
set_option maxRecDepth 100000
set_option maxHeartbeats 1000000
namespace PD
open PySem PySem.Spec PyProof.Rows L2
def bLen : List PyData → R PyData
  | [d] => (items d) >>= fun xs => .ok (.int xs.length)
  | _ => .bad
def bInt : List PyData → R PyData
  | [.int i] => .ok (.int i)
  | [.bool b] => .ok (.int (if b then 1 else 0))
  | _ => .bad
def bAbs : List PyData → R PyData
  | [.int i] => .ok (.int (if i < 0 then -i else i))
  | _ => .bad
def bTuple : List PyData → R PyData
  | [d] => (items d) >>= fun xs => .ok (.tuple xs)
  | _ => .bad
def bList : List PyData → R PyData
  | [d] => (items d) >>= fun xs => .ok (.list xs)
  | _ => .bad
def asInts : List PyData → Option (List Int)
  | [] => some []
  | .int i :: r => (asInts r).map fun k => i :: k
  | _ :: _ => none
def asBools : List PyData → Option (List Bool)
  | [] => some []
  | .bool i :: r => (asBools r).map fun k => i :: k
  | _ :: _ => none
def ofO {α : Type} (x : Option α) (f : α → R PyData) : R PyData := match x with
  | some a => f a
  | none => .bad
def bSum : List PyData → R PyData
  | [.list xs] => ofO (asInts xs) fun ns => .ok (.int ns.sum)
  | _ => .bad
def maxI : List Int → Int
  | [] => 0
  | [x] => x
  | x :: r => max x (maxI r)
def bMax : List PyData → R PyData
  | [.list xs] => ofO (asInts xs) fun ns => if 0 < ns.length then .ok (.int (maxI ns)) else .bad
  | _ => .bad
def bMin2 : List PyData → R PyData
  | [.int i, .int j] => .ok (.int (if j < i then j else i))
  | _ => .bad
def bAny : List PyData → R PyData
  | [.list xs] => ofO (asBools xs) fun ns => .ok (.bool (ns.any id))
  | _ => .bad
def bAll : List PyData → R PyData
  | [.list xs] => ofO (asBools xs) fun ns => .ok (.bool (ns.all id))
  | _ => .bad
/-- isinstance(x, T) of data: T one of int, bool, tuple, list, str -/
def isiD (T : String) : PyData → Option Bool
  | .none => kitB "NoneType" T
  | .bool _ => kitB "bool" T
  | .int _ => kitB "int" T
  | .str _ => kitB "str" T
  | .list _ => kitB "list" T
  | .tuple _ => kitB "tuple" T
  | .dict _ => none
def oIsi (T : String) (d : PyData) : R PyData := match isiD T d with
  | some b => .ok (.bool b)
  | none => .bad
theorem maxI_mem : ∀ {ns : List Int}, 0 < ns.length → maxI ns ∈ ns
  | [], h => by simp at h
  | [x], _ => by simp [maxI]
  | x :: y :: r, _ => by
    have ih := maxI_mem (ns := y :: r) (by simp)
    show max x (maxI (y :: r)) ∈ x :: y :: r
    rcases Int.le_total x (maxI (y :: r)) with h | h
    · rw [Int.max_eq_right h]; exact List.mem_cons_of_mem _ ih
    · rw [Int.max_eq_left h]; exact List.mem_cons_self
theorem le_maxI : ∀ {ns : List Int} {y : Int}, y ∈ ns → y ≤ maxI ns
  | [], _, h => by simp at h
  | [x], y, h => by simp at h; subst h; simp [maxI]
  | x :: z :: r, y, h => by
    show y ≤ max x (maxI (z :: r))
    rcases List.mem_cons.mp h with rfl | h
    · exact Int.le_max_left _ _
    · exact Int.le_trans (le_maxI h) (Int.le_max_right _ _)
section
variable {X : Cx} {Tb : List Addr} {W : WX} {K : PySem.W.Frag} {O : List Addr} {H : Hp} {σ : L2.St} {Wx : Value → Option Addr → Hp → Prop}
theorem ints_rp {G : Hp} : ∀ {vs : List V} {ds : List PyData} {ns : List Int}, RpAll K G vs ds → asInts ds = some ns → vs = ns.map V.int
  | _, _, _, .nil, h => by cases h; rfl
  | _, _, _, .cons (d := d) (ds := ds) r t, h => by
    cases r with
    | int i =>
      obtain ⟨k, e, rfl⟩ := Option.map_eq_some_iff.mp h
      rw [ints_rp t e]; rfl
    | _ => cases h
theorem bools_rp {G : Hp} : ∀ {vs : List V} {ds : List PyData} {ns : List Bool}, RpAll K G vs ds → asBools ds = some ns → vs = ns.map V.bl
  | _, _, _, .nil, h => by cases h; rfl
  | _, _, _, .cons (d := d) (ds := ds) r t, h => by
    cases r with
    | bl i =>
      obtain ⟨k, e, rfl⟩ := Option.map_eq_some_iff.mp h
      rw [bools_rp t e]; rfl
    | _ => cases h
theorem ofO_post {α : Type} {x : Option α} {f : α → R PyData} {Q : VK} (h : Post K O (RlD K O) Wx H (ofO x f) Q) : ∃ a, x = some a ∧ Post K O (RlD K O) Wx H (f a) Q := by
  cases x with
  | some a => exact ⟨a, rfl, h⟩
  | none => exact h.elim
theorem ok_len : OkL K (fun xs H Q => ∃ p ys, xs = [.ref p] ∧ (SqL K H p ys ∨ SqT K H p ys) ∧ Q (.int ys.length) H) bLen := by
  intro O H Wx vs ds Q al r h
  unfold bLen at h
  split at h
  · cases r with
    | cons r1 r2 =>
      cases r2
      unfold items at h
      split at h
      · cases r1 with
        | lst h1 z1 a1 => exact ⟨_, _, rfl, .inl (Sub.unhide.sqL h1), by rw [a1.length]; exact Post.here h (.int _)⟩
      · cases r1 with
        | tup h1 z1 a1 => exact ⟨_, _, rfl, .inr (Sub.unhide.sqT h1), by rw [a1.length]; exact Post.here h (.int _)⟩
      · exact h.elim
  · exact h.elim
theorem ok_int : OkL K (fun xs H Q => (∃ i, xs = [.int i] ∧ Q (.int i) H) ∨ ∃ k, xs = [.bl k] ∧ Q (.int (if k then 1 else 0)) H) bInt := by
  intro O H Wx vs ds Q al r h
  unfold bInt at h
  split at h
  · cases r with
    | cons r1 r2 => cases r2; cases r1; exact .inl ⟨_, rfl, Post.here h (.int _)⟩
  · cases r with
    | cons r1 r2 => cases r2; cases r1; exact .inr ⟨_, rfl, Post.here h (.int _)⟩
  · exact h.elim
theorem ok_abs : OkL K (fun xs H Q => ∃ i, xs = [.int i] ∧ Q (.int (if i < 0 then -i else i)) H) bAbs := by
  intro O H Wx vs ds Q al r h
  unfold bAbs at h
  split at h
  · cases r with
    | cons r1 r2 => cases r2; cases r1; exact ⟨_, rfl, Post.here h (.int _)⟩
  · exact h.elim
theorem ok_tuple : OkL K (fun xs H Q => ∃ p ys, xs = [.ref p] ∧ ((SqL K H p ys ∧ ∀ l, H l = none → Q (.ref l) (upd H l (.tup ys))) ∨ (SqT K H p ys ∧ Q (.ref p) H))) bTuple := by
  intro O H Wx vs ds Q al r h
  unfold bTuple at h
  split at h
  · cases r with
    | cons r1 r2 =>
      cases r2
      unfold items at h
      split at h
      · cases r1 with
        | lst h1 z1 a1 => exact ⟨_, _, rfl, .inl ⟨Sub.unhide.sqL h1, Post.newTup al h z1 a1⟩⟩
      · cases r1 with
        | tup h1 z1 a1 => exact ⟨_, _, rfl, .inr ⟨Sub.unhide.sqT h1, Post.here h (.tup h1 z1 a1)⟩⟩
      · exact h.elim
  · exact h.elim
/-- of a list of ints -/
theorem ok_ints {g : List Int → R PyData} {u : List PyData → R PyData} {r : List V → Hp → VK → Prop} (hu : ∀ ds, (∃ xs, ds = [.list xs] ∧ u ds = ofO (asInts xs) g) ∨ u ds = .bad)
    (k : ∀ (O : List Addr) (H : Hp) (Wx : Value → Option Addr → Hp → Prop) (a : Addr) (ns : List Int) (Q : VK), Al O H → SqL K H a (ns.map V.int) → Post K O (RlD K O) Wx H (g ns) Q → r [.ref a] H Q) : OkL K r u := by
  intro O H Wx vs ds Q al rp h
  rcases hu ds with ⟨xs, rfl, e⟩ | e
  · rw [e] at h
    obtain ⟨ns, en, h⟩ := ofO_post h
    cases rp with
    | cons r1 r2 =>
      cases r2
      cases r1 with
      | lst h1 z1 a1 =>
        have q := ints_rp a1 en
        subst q
        exact k O H Wx _ ns Q al (Sub.unhide.sqL h1) h
  · rw [e] at h
    exact h.elim
theorem ok_bools {g : List Bool → R PyData} {u : List PyData → R PyData} {r : List V → Hp → VK → Prop} (hu : ∀ ds, (∃ xs, ds = [.list xs] ∧ u ds = ofO (asBools xs) g) ∨ u ds = .bad)
    (k : ∀ (O : List Addr) (H : Hp) (Wx : Value → Option Addr → Hp → Prop) (a : Addr) (ns : List Bool) (Q : VK), Al O H → SqL K H a (ns.map V.bl) → Post K O (RlD K O) Wx H (g ns) Q → r [.ref a] H Q) : OkL K r u := by
  intro O H Wx vs ds Q al rp h
  rcases hu ds with ⟨xs, rfl, e⟩ | e
  · rw [e] at h
    obtain ⟨ns, en, h⟩ := ofO_post h
    cases rp with
    | cons r1 r2 =>
      cases r2
      cases r1 with
      | lst h1 z1 a1 =>
        have q := bools_rp a1 en
        subst q
        exact k O H Wx _ ns Q al (Sub.unhide.sqL h1) h
  · rw [e] at h
    exact h.elim
theorem ok_sum : OkL K (rSum K) bSum := ok_ints (fun ds => by unfold bSum; split; exact .inl ⟨_, rfl, rfl⟩; exact .inr rfl) fun O H Wx a ns Q al s h => ⟨a, ns, rfl, s, Post.here h (.int _)⟩
theorem ok_max : OkL K (rMax K) bMax := ok_ints (fun ds => by unfold bMax; split; exact .inl ⟨_, rfl, rfl⟩; exact .inr rfl) fun O H Wx a ns Q al s h => by
  by_cases hn : 0 < ns.length
  · rw [if_pos hn] at h
    refine ⟨a, ns, rfl, s, hn, fun m h1 h2 => ?_⟩
    have e : m = maxI ns := Int.le_antisymm (le_maxI h1) (h2 _ (maxI_mem hn))
    rw [e]
    exact Post.here h (.int _)
  · rw [if_neg hn] at h
    exact h.elim
theorem ok_all : OkL K (rAll K) bAll := ok_bools (fun ds => by unfold bAll; split; exact .inl ⟨_, rfl, rfl⟩; exact .inr rfl) fun O H Wx a ns Q al s h => ⟨a, ns, rfl, s, Post.here h (.bl _)⟩
theorem ok_min2 : OkL K (fun xs H Q => ∃ i j, xs = [.int i, .int j] ∧ Q (.int (if j < i then j else i)) H) bMin2 := by
  intro O H Wx vs ds Q al r h
  unfold bMin2 at h
  split at h
  · cases r with
    | cons r1 r2 => cases r2 with
      | cons r2 r3 => cases r3; cases r1; cases r2; exact ⟨_, _, rfl, Post.here h (.int _)⟩
  · exact h.elim
variable {x : Str} {p pos : Pos} {e : Expr} {es : List Expr} {g : DnL} {id T : String} {r : List V → Hp → VK → Prop} {u : List PyData → R PyData}
theorem fd_callB (hc : CallR X (.builtin id) r) (hk : OkL X.K r u) (hg : Gl X x) (hm : X.mg x = none) (hv : bootBuiltins x = some (.builtin id)) (ha : PA X (e :: es) (tDs X.K Tb W g)) (hn : x ≠ "__name__" := by decide) (hdb : (x == ("__debug__" : Str)) = false := by decide)
    (he : starEach (e :: es) X.env = (false, eval e X.env) :: starEach es X.env := by rfl) (hpl : (backTo pos (starEach es X.env)).any (·.1) = false := by rfl) : PE X (.Call (.Name x p) (e :: es) [] pos) (tD X.K Tb W (dArg u g)) :=
  (pe_callB hc hg hm hv ha hn hdb he hpl).by fun σ H Q h => tD_arg hk h
theorem fd_callTy (hc : CallR X (.type T) r) (hk : OkL X.K r u) (hg : Gl X x) (hm : X.mg x = none) (hv : bootBuiltins x = some (.type T)) (ha : PA X (e :: es) (tDs X.K Tb W g)) (hn : x ≠ "__name__" := by decide) (hdb : (x == ("__debug__" : Str)) = false := by decide)
    (he : starEach (e :: es) X.env = (false, eval e X.env) :: starEach es X.env := by rfl) (hpl : (backTo pos (starEach es X.env)).any (·.1) = false := by rfl) : PE X (.Call (.Name x p) (e :: es) [] pos) (tD X.K Tb W (dArg u g)) :=
  (pe_callTy hc hg hm hv ha hn hdb he hpl).by fun σ H Q h => tD_arg hk h
theorem tyX_rp {G : Hp} {v : V} {d : PyData} {T : String} {b : Bool} (r : Rp K H v d) (h : isiD T d = some b) : ∃ t, TyX K H v (.type t) ∧ PySem.W.kitOne K (.type t) (.type T) = some b := by
  unfold isiD at h
  cases r with
  | non => exact ⟨_, .base .non, kit_ty h⟩
  | bl b => exact ⟨_, .base (.bl b), kit_ty h⟩
  | int b => exact ⟨_, .base (.int b), kit_ty h⟩
  | str b => exact ⟨_, .base (.str b), kit_ty h⟩
  | lst h1 z a =>
    rcases h1 with (h1 | ⟨o, h1⟩) | ⟨o, its, n, h1, h2, _⟩
    · exact ⟨_, .base (.lst h1), kit_ty h⟩
    · exact ⟨_, .base (.frz h1), kit_ty h⟩
    · exact ⟨_, .kList h1 h2, kit_ty h⟩
  | tup h1 z a =>
    rcases h1 with (h1 | ⟨o, h1⟩) | ⟨o, its, n, h1, h2, _⟩
    · exact ⟨_, .base (.tup h1), kit_ty h⟩
    · exact ⟨_, .fTuple h1, kit_ty h⟩
    · exact ⟨_, .kTuple h1 h2, kit_ty h⟩
  | dct _ _ => cases h
  | dk _ _ _ => cases h
  | ins _ _ _ => cases h
/-- isinstance(x, T) -/
theorem fd_isi {f : Dn} {a : Expr} {y : Str} {py : Pos} (ha : PE X a (tD X.K Tb W f)) (hg : Gl X "isinstance") (hm : X.mg "isinstance" = none) (hgy : Gl X y) (hmy : X.mg y = none) (hvy : bootBuiltins y = some (.type T)) (hny : y ≠ "__name__" := by decide) (hdy : (y == ("__debug__" : Str)) = false := by decide)
    (he : starEach [a, .Name y py] X.env = (false, eval a X.env) :: starEach [.Name y py] X.env := by rfl) (he2 : starEach [.Name y py] X.env = (false, eval (.Name y py) X.env) :: starEach [] X.env := by rfl) (hpl : (backTo pos (starEach [.Name y py] X.env)).any (·.1) = false := by rfl) :
    PE X (.Call (.Name "isinstance" p) [a, .Name y py] [] pos) (tD X.K Tb W (dOne (oIsi T) f)) :=
  (pe_callB call_isi hg hm boot_isinstance (pa_cons ha (pa_cons (pe_bltn (v := .ty T) hgy hmy hvy rfl hny hdy) pa_nil he2) he) (by decide) (by decide) he hpl).by fun σ H Q ⟨H0, O0, O, ρ, st, h⟩ => ⟨H0, O0, O, ρ, st, by
    refine Post.then h fun d v H1 e r k => ?_
    unfold oIsi at k
    split at k
    · rename_i b hb
      obtain ⟨t, h1, h2⟩ := tyX_rp (G := H1) (r.mono Sub.unhide) hb
      exact ⟨v, .ty T, .type t, .type T, b, rfl, .ty T, h1, h2, Post.here k (.bl b)⟩
    · exact k.elim⟩
end
end PD
set_option Elab.async false
set_option linter.all false
set_option maxRecDepth 100000
set_option maxHeartbeats 1000000
namespace PD
open PySem PySem.Spec PyProof.Rows L2
structure ItD (K : PySem.W.Frag) (G : Hp) (J : It) (ds : List PyData) : Prop where
  len : ds.length ≤ sizeLine
  go : ∀ i H', Ext G H' → i < ds.length → J.go i H'
  yld : ∀ i H' (O' : List Addr) x H'', Ext G H' → (∀ b ∈ O', G b = none) → Al O' H' → i < ds.length → J.yld i H' x H'' → Ext H' H'' ∧ ∃ d, ds[i]? = some d ∧ Rp K (hide O' H'') x d
  stop : ∀ H', Ext G H' → J.stop ds.length H'
def tI (K : PySem.W.Frag) (Tb : List Addr) (W : WX) (f : DnL) : TI := fun σ H R => ∃ H0 O0 O ρ, St0 K Tb H0 O0 O H σ ρ ∧ Post K O (fun H' J ds => ItD K (hide O H') J ds) (fun c d H => W c d σ H) H (f ρ) R
theorem _root_.L2.PI.by {X : Cx} {tg iter : Expr} {t t' : TI} (h : PI X tg iter t) (i : ∀ σ H Q, t' σ H Q → t σ H Q) : PI X tg iter t' := ⟨fun pins s σ H Q I q => h.run pins s σ H Q I (i σ H Q q)⟩
section
variable {K : PySem.W.Frag} {G H H' H'' : Hp} {O O' : List Addr} {a : Addr} {ds : List PyData} {xs : List V}
theorem Ext.under (e : Ext G H') (n : ∀ b ∈ O', G b = none) : Sub G (hide O' H') := fun b o h h2 => by
  have hb : b ∉ O' := fun m => by rw [n b m] at h; cases h
  rw [hide_out hb]
  exact e.keep b o h h2
theorem itd_list (h : SqL K G a xs) (z : ds.length ≤ sizeLine) (r : RpAll K G xs ds) : ItD K G (Itl K a) ds where
  len := z
  go := fun i H' e hi => by
    have hx : i < xs.length := by rw [r.length]; exact hi
    exact ⟨xs, xs[i], (Sub.ext e).sqL h, List.getElem?_eq_getElem hx⟩
  yld := fun i H' O' x H'' e n al hi y => by
    obtain ⟨rfl, y⟩ := y
    have q := y xs ((Sub.ext e).sqL h)
    obtain ⟨d, h1, h2⟩ := r.get q
    exact ⟨Ext.refl _, d, h1, h2.mono (e.under n)⟩
  stop := fun H' e => ⟨xs, (Sub.ext e).sqL h, by rw [r.length]; exact Nat.le_refl _⟩
theorem itd_tup (h : SqT K G a xs) (z : ds.length ≤ sizeLine) (r : RpAll K G xs ds) : ItD K G (Itt K a) ds where
  len := z
  go := fun i H' e hi => by
    have hx : i < xs.length := by rw [r.length]; exact hi
    exact ⟨xs, xs[i], (Sub.ext e).sqT h, List.getElem?_eq_getElem hx⟩
  yld := fun i H' O' x H'' e n al hi y => by
    obtain ⟨rfl, y⟩ := y
    have q := y xs ((Sub.ext e).sqT h)
    obtain ⟨d, h1, h2⟩ := r.get q
    exact ⟨Ext.refl _, d, h1, h2.mono (e.under n)⟩
  stop := fun H' e => ⟨xs, (Sub.ext e).sqT h, by rw [r.length]; exact Nat.le_refl _⟩
/-- lo, lo + 1, .. -/
def rngD (lo : Int) (n : Nat) : List PyData := (List.range n).map fun i => .int (lo + (i : Nat))
theorem itd_rng {lo : Int} {n : Nat} (z : n ≤ sizeLine) : ItD K G (Itr lo n) (rngD lo n) where
  len := by unfold rngD; rw [List.length_map, List.length_range]; exact z
  go := fun i H' e hi => by
    unfold rngD at hi; rw [List.length_map, List.length_range] at hi; exact hi
  yld := fun i H' O' x H'' e n' al hi y => by
    obtain ⟨rfl, rfl⟩ := y
    unfold rngD at hi ⊢
    rw [List.length_map, List.length_range] at hi
    exact ⟨Ext.refl _, _, by rw [List.getElem?_map, List.getElem?_range hi]; rfl, .int _⟩
  stop := fun H' e => by
    unfold rngD
    rw [List.length_map, List.length_range]
    exact Nat.le_refl n
end
section
variable {X : Cx} {Tb : List Addr} {W : WX} {tg : Expr}
theorem pi_both {l : Expr} {tl : TE} (hl : PE X l tl) : PI X tg l (fun σ H R => tl σ H fun x H1 => ∃ a, x = .ref a ∧ (((∃ xs, SqL X.K H1 a xs) ∧ R (Itl X.K a) H1) ∨ ((∃ xs, SqT X.K H1 a xs) ∧ R (Itt X.K a) H1))) := by
  refine ⟨fun pins s σ H R I h => ?_⟩
  refine thn (hl.run pins s σ H _ I h) fun v s1 ⟨x, H1, I1, r1, q1⟩ => ?_
  obtain ⟨a, e, q | q⟩ := q1
  · have k : PI X tg (.Name "x" ⟨0, 0, 0, 0⟩) (fun _ H' R' => H' = H1 ∧ R' = R) → True := fun _ => trivial
    obtain ⟨⟨xs, hq⟩, q⟩ := q
    subst e
    cases r1
    obtain ⟨its, rv, p, hz⟩ := I1.list hq
    refine wpAny_pyIter_list p.isList ?_
    have f : FpOk X pins H1 s1.heap.objs.size := I1.fpOk (Nat.le_refl _) (I1.hok.fresh (Nat.le_refl _))
    exact ⟨s1.heap.objs.size, [s1.heap.objs.size], _, _, H1, rfl, I1.kept (t' := s1.toks) fun b o e => Heap.get?_push_of_some _ e, turn_list a _, ⟨_, Heap.get?_push_size _ rfl, rfl, rfl⟩, fun b hb => (List.mem_singleton.mp hb) ▸ f, q⟩
  · obtain ⟨⟨xs, hq⟩, q⟩ := q
    subst e
    cases r1
    obtain ⟨its, rv, p, hz⟩ := I1.tuple hq
    refine wpAny_pyIter_tuple (show s1.heap.IsTuple a its.toArray from p) ?_
    have f : FpOk X pins H1 s1.heap.objs.size := I1.fpOk (Nat.le_refl _) (I1.hok.fresh (Nat.le_refl _))
    exact ⟨s1.heap.objs.size, [s1.heap.objs.size], _, _, H1, rfl, I1.kept (t' := s1.toks) fun b o e => Heap.get?_push_of_some _ e, turn_tuple a _, ⟨_, Heap.get?_push_size _ rfl, rfl, rfl⟩, fun b hb => (List.mem_singleton.mp hb) ▸ f, q⟩
def dItems (f : Dn) : DnL := fun ρ => f ρ >>= items
theorem fi_seq {l : Expr} {f : Dn} (hl : PE X l (tD X.K Tb W f)) : PI X tg l (tI X.K Tb W (dItems f)) := (pi_both hl).by fun σ H R ⟨H0, O0, O, ρ, st, h⟩ => ⟨H0, O0, O, ρ, st, by
  refine Post.then h fun d v H1 e r k => ?_
  unfold items at k
  split at k
  · cases r with
    | lst h1 z1 a1 => exact ⟨_, rfl, .inl ⟨⟨_, Sub.unhide.sqL h1⟩, k _ H1 (Ext.refl _) (itd_list h1 z1 a1)⟩⟩
  · cases r with
    | tup h1 z1 a1 => exact ⟨_, rfl, .inr ⟨⟨_, Sub.unhide.sqT h1⟩, k _ H1 (Ext.refl _) (itd_tup h1 z1 a1)⟩⟩
  · exact k.elim⟩
def rngA1 : List PyData → R (List PyData)
  | [.int n] => if -(2 ^ 62) ≤ n ∧ n.toNat ≤ sizeLine then .ok (rngD 0 n.toNat) else .bad
  | _ => .bad
def rngA2 : List PyData → R (List PyData)
  | [.int a, .int b] => if (-(2 ^ 62) ≤ a ∧ a < 2 ^ 62 ∧ -(2 ^ 62) ≤ b ∧ b < 2 ^ 62) ∧ (b - a).toNat ≤ sizeLine then .ok (rngD a (b - a).toNat) else .bad
  | _ => .bad
def dRng1 (g : DnL) : DnL := fun ρ => g ρ >>= rngA1
def dRng2 (g : DnL) : DnL := fun ρ => g ρ >>= rngA2
theorem line62 : (sizeLine : Int) < 2 ^ 62 := by rw [sizeLine_eq]; decide
theorem fi_rng1 {a : Expr} {g : DnL} {p pos : Pos} (hg : Gl X "range") (hm : X.mg "range" = none) (ha : PA X [a] (tDs X.K Tb W g)) (hs : starEach [a] X.env = [(false, eval a X.env)] := by rfl) : PI X tg (.Call (.Name "range" p) [a] [] pos) (tI X.K Tb W (dRng1 g)) :=
  (pi_range1 hg hm ha hs).by fun σ H R' ⟨H0, O0, O, ρ, st, h⟩ => ⟨H0, O0, O, ρ, st, by
    refine Post.then h fun d v H1 e r k => ?_
    unfold rngA1 at k
    split at k
    · split at k
      · rename_i z
        cases r with
        | cons r1 r2 =>
          cases r2
          cases r1
          have := line62
          exact ⟨_, rfl, z.1, by omega, k _ H1 (Ext.refl _) (itd_rng z.2)⟩
      · exact k.elim
    · exact k.elim⟩
theorem fi_rng2 {a b : Expr} {g : DnL} {p pos : Pos} (hg : Gl X "range") (hm : X.mg "range" = none) (ha : PA X [a, b] (tDs X.K Tb W g)) (hs : starEach [a, b] X.env = [(false, eval a X.env), (false, eval b X.env)] := by rfl) (hs2 : starEach [b] X.env = [(false, eval b X.env)] := by rfl) :
    PI X tg (.Call (.Name "range" p) [a, b] [] pos) (tI X.K Tb W (dRng2 g)) :=
  (pi_range2 hg hm ha hs hs2).by fun σ H R' ⟨H0, O0, O, ρ, st, h⟩ => ⟨H0, O0, O, ρ, st, by
    refine Post.then h fun d v H1 e r k => ?_
    unfold rngA2 at k
    split at k
    · split at k
      · rename_i z
        cases r with
        | cons r1 r2 =>
          cases r2 with
          | cons r2 r3 =>
            cases r3
            cases r1
            cases r2
            exact ⟨_, _, rfl, z.1, k _ H1 (Ext.refl _) (itd_rng z.2)⟩
      · exact k.elim
    · exact k.elim⟩
inductive Tg where
  | nm (i : Nat)
  | tp (ts : List Tg)
mutual
def Tg.set : Tg → PyData → Rho → Option Rho
  | .nm i, d, ρ => some (ρ.set i (some (.d d)))
  | .tp ts, d, ρ => match d with
    | .tuple ds => Tg.sets ts ds ρ
    | _ => none
def Tg.sets : List Tg → List PyData → Rho → Option Rho
  | [], [], ρ => some ρ
  | t :: ts, d :: ds, ρ => (Tg.set t d ρ).bind fun ρ' => Tg.sets ts ds ρ'
  | _, _, _ => none
end
mutual
def Tg.ixs : Tg → List Nat
  | .nm i => [i]
  | .tp ts => Tg.ixss ts
def Tg.ixss : List Tg → List Nat
  | [] => []
  | t :: ts => Tg.ixs t ++ Tg.ixss ts
end
/-- but for the places is -/
def Agr (is : List Nat) (σ σ' : L2.St) : Prop := σ'.length = σ.length ∧ ∀ j, j ∉ is → σ'[j]? = σ[j]?
theorem Agr.refl (is : List Nat) (σ : L2.St) : Agr is σ σ := ⟨rfl, fun _ _ => rfl⟩
theorem Agr.trans {is js : List Nat} {σ σ1 σ2 : L2.St} (a : Agr is σ σ1) (b : Agr js σ1 σ2) : Agr (is ++ js) σ σ2 :=
  ⟨b.1.trans a.1, fun j h => by rw [List.mem_append, not_or] at h; rw [b.2 j h.2, a.2 j h.1]⟩
theorem wipe_in {σ : L2.St} {j : Nat} : ∀ {vs : List Nat}, j ∈ vs → j < σ.length → (wipe σ vs)[j]? = some none
  | v :: vs, h, hl => by
    unfold wipe
    by_cases e : v = j
    · subst e
      rw [List.getElem?_set_self (by rw [wipe_length]; exact hl)]
    · rw [List.getElem?_set_ne e]
      rcases List.mem_cons.mp h with h | h
      · exact absurd h.symm e
      · exact wipe_in h hl
theorem Agr.wipe {is vs : List Nat} {σ σ' : L2.St} (a : Agr is σ σ') (h : ∀ i ∈ is, i ∈ vs) : L2.wipe σ' vs = L2.wipe σ vs := by
  apply List.ext_getElem?
  intro j
  by_cases hj : j ∈ vs
  · by_cases hl : j < σ.length
    · rw [wipe_in hj hl, wipe_in hj (by rw [a.1]; exact hl)]
    · rw [List.getElem?_eq_none (by rw [wipe_length, a.1]; omega), List.getElem?_eq_none (by rw [wipe_length]; omega)]
  · rw [wipe_out hj, wipe_out hj, a.2 j fun m => hj (h j m)]
/-- a target: the value v, that reads as d, is stored -/
def tG (K : PySem.W.Frag) (Tb : List Addr) (t : Tg) : TG := fun v σ H Q => ∃ H0 O0 O ρ ρ' d, St0 K Tb H0 O0 O H σ ρ ∧ Rp K (hide O H) v d ∧ t.set d ρ = some ρ' ∧ ∀ σ', St0 K Tb H0 O0 O H σ' ρ' → Agr t.ixs σ σ' → Q σ' H
def tGs (K : PySem.W.Frag) (Tb : List Addr) (ts : List Tg) : TGs := fun vs σ H Q => ∃ H0 O0 O ρ ρ' ds, St0 K Tb H0 O0 O H σ ρ ∧ RpAll K (hide O H) vs ds ∧ Tg.sets ts ds ρ = some ρ' ∧ ∀ σ', St0 K Tb H0 O0 O H σ' ρ' → Agr (Tg.ixss ts) σ σ' → Q σ' H
theorem _root_.L2.PG.by {X : Cx} {tg : Expr} {t t' : TG} (h : PG X tg t) (i : ∀ v σ H Q, t' v σ H Q → t v σ H Q) : PG X tg t' := ⟨fun pins s σ H v u Q I r q => h.run pins s σ H v u Q I r (i v σ H Q q)⟩
theorem _root_.L2.PGs.by {X : Cx} {tg : List Expr} {t t' : TGs} (h : PGs X tg t) (i : ∀ v σ H Q, t' v σ H Q → t v σ H Q) : PGs X tg t' := ⟨fun pins s σ H v u Q I r q => h.run pins s σ H v u Q I r (i v σ H Q q)⟩
theorem St0.set {K : PySem.W.Frag} {H0 H : Hp} {O0 O : List Addr} {ρ : Rho} {σ : L2.St} {i : Nat} {v : V} {d : PyData} (st : St0 K Tb H0 O0 O H σ ρ) (r : Rp K (hide O H) v d) : St0 K Tb H0 O0 O H (σ.set i (some v)) (ρ.set i (some (.d d))) where
  ext := st.ext
  sub := st.sub
  new := st.new
  al := st.al
  tab := st.tab
  pln := st.pln
  len := by rw [List.length_set, List.length_set]; exact st.len
  slot := fun j x h => by
    by_cases e : i = j
    · subst e
      have hl : i < ρ.length := by
        have := (List.getElem?_eq_some_iff.mp h).1
        rw [List.length_set] at this
        exact this
      rw [List.getElem?_set_self hl] at h
      cases h
      exact ⟨v, by rw [List.getElem?_set_self (by rw [st.len]; exact hl)], r⟩
    · rw [List.getElem?_set_ne e] at h ⊢
      exact st.slot j x h
  inj := fun j k p xs ys hx hy h1 h2 h3 h4 => by
    by_cases e : i = j
    · subst e
      have hl : i < ρ.length := by
        have := (List.getElem?_eq_some_iff.mp h1).1
        rw [List.length_set] at this
        exact this
      rw [List.getElem?_set_self hl] at h1
      cases h1
      exact hx.elim
    · by_cases e2 : i = k
      · subst e2
        have hl : i < ρ.length := by
          have := (List.getElem?_eq_some_iff.mp h2).1
          rw [List.length_set] at this
          exact this
        rw [List.getElem?_set_self hl] at h2
        cases h2
        exact hy.elim
      · rw [List.getElem?_set_ne e] at h1 h3
        rw [List.getElem?_set_ne e2] at h2 h4
        exact st.inj j k p xs ys hx hy h1 h2 h3 h4
theorem fg_nm {i : Nat} {x : Str} {pos : Pos} (hN : X.N.Nodup) (hi : X.N[i]? = some x) (hx : Loc X.env.scope x) (hf : X.fn x = true ∨ X.env.scope.names.lookup x = some .local := by first | exact .inl rfl | exact .inr rfl | assumption) : PG X (.Name x pos) (tG X.K Tb (.nm i)) :=
  (pg_name hN hi hx hf).by fun v σ H Q ⟨H0, O0, O, ρ, ρ', d, st, r, e, q⟩ => by
    unfold Tg.set at e
    cases e
    refine q _ (st.set r) ⟨by rw [List.length_set], fun j hj => ?_⟩
    unfold Tg.ixs at hj
    rw [List.getElem?_set_ne (fun e => hj (by rw [e]; exact List.mem_singleton.mpr rfl))]
theorem fgs_nil : PGs X [] (tGs X.K Tb []) := pgs_nil.by fun v σ H Q ⟨H0, O0, O, ρ, ρ', ds, st, r, e, q⟩ => by
  cases r with
  | nil =>
    unfold Tg.sets at e
    cases e
    exact ⟨rfl, q _ st (Agr.refl _ _)⟩
  | cons _ _ => unfold Tg.sets at e; cases e
theorem fgs_cons {e : Expr} {es : List Expr} {t : Tg} {ts : List Tg} (h1 : PG X e (tG X.K Tb t)) (h2 : PGs X es (tGs X.K Tb ts))
    (hs : (assignEach (e :: es) X.env).map (·.2) = assign e X.env :: (assignEach es X.env).map (·.2) := by rfl) : PGs X (e :: es) (tGs X.K Tb (t :: ts)) := (pgs_cons h1 h2 hs).by fun v σ H Q ⟨H0, O0, O, ρ, ρ', ds, st, r, e, q⟩ => by
  cases r with
  | nil => unfold Tg.sets at e; cases e
  | @cons v vs d ds r1 r2 =>
    unfold Tg.sets at e
    cases e1 : Tg.set t d ρ with
    | none => rw [e1] at e; cases e
    | some ρ1 =>
      rw [e1] at e
      refine ⟨v, vs, rfl, H0, O0, O, ρ, ρ1, d, st, r1, e1, fun σ' st' ag => ?_⟩
      refine ⟨H0, O0, O, ρ1, ρ', ds, st', r2, e, fun σ2 st2 ag2 => q _ st2 ?_⟩
      unfold Tg.ixss
      exact ag.trans ag2
theorem fg_tup {es : List Expr} {k : Nat} {ts : List Tg} {pos : Pos} {n : Nat} (hc : X.calm = true) (h : PGs X es (tGs X.K Tb ts)) (hn : (assignEach es X.env).length = n := by rfl) (hst : (assignEach es X.env).findIdx? (·.1) = none := by rfl) (hl : ts.length = n := by rfl) :
    PG X (.Tuple es k pos) (tG X.K Tb (.tp ts)) := (pg_tup hc h hn hst).by fun v σ H Q ⟨H0, O0, O, ρ, ρ', d, st, r, e, q⟩ => by
  unfold Tg.set at e
  split at e
  · cases r with
    | tup h1 z1 a1 =>
      rename_i xs ds _
      have hlen : ∀ (ts : List Tg) (ds : List PyData) (ρ ρ' : Rho), Tg.sets ts ds ρ = some ρ' → ds.length = ts.length := by
        intro ts
        induction ts with
        | nil => intro ds ρ ρ' e; cases ds with
          | nil => rfl
          | cons _ _ => unfold Tg.sets at e; cases e
        | cons t ts ih => intro ds ρ ρ' e; cases ds with
          | nil => unfold Tg.sets at e; cases e
          | cons d ds =>
            unfold Tg.sets at e
            cases e1 : Tg.set t d ρ with
            | none => rw [e1] at e; cases e
            | some ρ1 =>
              rw [e1] at e
              rw [List.length_cons, List.length_cons, ih _ _ _ e]
      refine ⟨_, _, rfl, Sub.unhide.sqT h1, ?_, H0, O0, O, ρ, ρ', _, st, a1, e, fun σ' st' ag => q σ' st' ?_⟩
      · rw [a1.length, hlen _ _ _ _ e, hl]
      · unfold Tg.ixs
        exact ag
  · cases e
end
end PD
set_option Elab.async false
set_option linter.all false
set_option maxRecDepth 100000
set_option maxHeartbeats 1000000
namespace PD
open PySem PySem.Spec PyProof.Rows L2
def nx {α β : Type} (x : R α) (k : α → R β) : R β := match x with
  | .ok a => k a
  | _ => .bad
theorem nx_ok {α β : Type} {x : R α} {k : α → R β} {b : β} (h : nx x k = .ok b) : ∃ a, x = .ok a ∧ k a = .ok b := by
  cases x with
  | ok a => exact ⟨a, rfl, h⟩
  | exc e => cases h
  | bad => cases h
@[simp] theorem nx_ok' {α β : Type} {a : α} {k : α → R β} : nx (.ok a) k = k a := rfl
def wipeR (ρ : Rho) : List Nat → Rho
  | [] => ρ
  | v :: vs => (wipeR ρ vs).set v none
def lcGo (t : Tg) (ft : DnB) (fe : Dn) (ρ : Rho) : List PyData → R (List PyData)
  | [] => .ok []
  | d :: ds => match t.set d ρ with
    | some ρ1 => nx (ft ρ1) fun b => if b = true then nx (fe ρ1) fun y => nx (lcGo t ft fe ρ ds) fun ys => .ok (y :: ys) else lcGo t ft fe ρ ds
    | none => .bad
def dLc (fi : DnL) (t : Tg) (ft : DnB) (fe : Dn) (vs : List Nat) : Dn := fun ρ => fi ρ >>= fun ds => nx (lcGo t ft fe (wipeR ρ vs) ds) fun ys => .ok (.list ys)
def W0 : WX := fun _ _ _ _ => False
def dYes : DnB := fun _ => .ok true
theorem wipeR_length (ρ : Rho) : ∀ vs : List Nat, (wipeR ρ vs).length = ρ.length
  | [] => rfl
  | v :: vs => by unfold wipeR; rw [List.length_set, wipeR_length ρ vs]
theorem wipeR_some {ρ : Rho} {i : Nat} {x : Sl} : ∀ {vs : List Nat}, (wipeR ρ vs)[i]? = some (some x) → ρ[i]? = some (some x) ∧ i ∉ vs
  | [], h => ⟨h, by simp⟩
  | v :: vs, h => by
    unfold wipeR at h
    by_cases hi : v = i
    · subst hi
      by_cases hv : v < (wipeR ρ vs).length
      · rw [List.getElem?_set_self hv] at h; cases h
      · rw [List.getElem?_eq_none (by simpa using hv)] at h; cases h
    · rw [List.getElem?_set_ne hi] at h
      obtain ⟨h1, h2⟩ := wipeR_some h
      exact ⟨h1, by simp only [List.mem_cons, not_or]; exact ⟨fun e => hi e.symm, h2⟩⟩
theorem wipe_wipe {σ : L2.St} {vs : List Nat} : L2.wipe (L2.wipe σ vs) vs = L2.wipe σ vs := by
  refine Agr.wipe (is := vs) ⟨wipe_length _ _, fun j h => wipe_out h⟩ fun _ h => h
section
variable {K : PySem.W.Frag} {Tb : List Addr} {H0 H H1 : Hp} {O0 O : List Addr} {ρ : Rho} {σ : L2.St} {D p : Addr} {o : HO}
theorem St0.wiped (st : St0 K Tb H0 O0 O H σ ρ) (vs : List Nat) : St0 K Tb H0 O0 O H (L2.wipe σ vs) (wipeR ρ vs) where
  ext := st.ext
  sub := st.sub
  new := st.new
  al := st.al
  tab := st.tab
  pln := st.pln
  len := by rw [wipe_length, wipeR_length]; exact st.len
  slot := fun i x h => by
    obtain ⟨h1, h2⟩ := wipeR_some h
    obtain ⟨v, h3, h4⟩ := st.slot i x h1
    exact ⟨v, by rw [wipe_out h2]; exact h3, h4⟩
  inj := fun i j p xs ys hx hy h1 h2 h3 h4 => by
    obtain ⟨a1, a2⟩ := wipeR_some h1
    obtain ⟨b1, b2⟩ := wipeR_some h2
    rw [wipe_out a2] at h3
    rw [wipe_out b2] at h4
    exact st.inj i j p xs ys hx hy a1 b1 h3 h4
theorem tabG_ne {H : Hp} {P p : Addr} (t : TabC H P) (h : ∀ ps, H p ≠ some (.tbl ps)) : P ≠ p := fun e => by
  obtain ⟨ps, q, _⟩ := t
  rw [e] at q
  exact h ps q
theorem Ext.updN (e : Ext H H1) (n : H D = none) (pl : ∀ c q, H1 D ≠ some (LamX.CodeO c q)) : Ext H (upd H1 D o) where
  keep := fun b x h t => by
    rw [upd_ne (ne_of_none h n)]
    exact e.keep b x h t
  tab := fun b t => by
    have hb : b ≠ D := tabG_ne t fun ps q => by rw [n] at q; cases q
    exact (e.tab b t).mono (fun ps h => by rw [upd_ne hb]; exact h) fun c q h => by rw [upd_ne fun z => pl c q (by rw [← z]; exact h)]; exact h
  al := fun b h => by
    by_cases hb : b = D
    · rw [hb, upd_same]; simp
    · rw [upd_ne hb]; exact e.al b h
theorem hide_upd (m : p ∈ O) : hide O (upd H p o) = hide O H := by
  funext b
  unfold hide
  by_cases hb : b ∈ O
  · rw [if_pos hb, if_pos hb]
  · rw [if_neg hb, if_neg hb, upd_ne (fun e => hb (by rw [e]; exact m))]
/-- a new hidden object -/
theorem St0.more (st : St0 K Tb H0 O0 O H σ ρ) (n : H D = none) (pl : Plain o) : St0 K Tb H0 O0 (D :: O) (upd H D o) σ ρ := by
  have n0 : H0 D = none := by
    cases q : H0 D with
    | none => rfl
    | some x => exact absurd n (st.ext.al D (by rw [q]; simp))
  have sub : Sub (hide O H) (hide (D :: O) (upd H D o)) := fun b x h t => by
    obtain ⟨h1, h2⟩ := hide_some h
    have hb : b ≠ D := ne_of_none h2 n
    rw [hide_out (by rw [List.mem_cons, not_or]; exact ⟨hb, h1⟩), upd_ne hb]
    exact h2
  refine ⟨st.ext.updN n0 (fun _ _ z => by rw [n] at z; cases z), fun b h => List.mem_cons_of_mem _ (st.sub b h), fun b h h2 => ?_, fun b h => ?_, fun P m => ?_, fun b m m2 => ?_, st.len, fun i x h => ?_, st.inj⟩
  · rcases List.mem_cons.mp h with rfl | h
    · exact n0
    · exact st.new b h h2
  · rcases List.mem_cons.mp h with rfl | h
    · rw [upd_same]; simp
    · by_cases hb : b = D
      · rw [hb, upd_same]; simp
      · rw [upd_ne hb]; exact st.al b h
  · exact (st.tab P m).mono (fun ps h => by rw [upd_ne (ne_of_none h n)]; exact h) fun c q h => by rw [upd_ne (ne_of_none h n)]; exact h
  · rcases List.mem_cons.mp m with rfl | m
    · exact ⟨o, upd_same, pl⟩
    · obtain ⟨x, h, q⟩ := st.pln b m m2
      exact ⟨x, by rw [upd_ne (ne_of_none h n)]; exact h, q⟩
  · obtain ⟨v, h1, h2⟩ := st.slot i x h
    exact ⟨v, h1, h2.mv sub (fun _ p _ m _ => ⟨List.mem_cons_of_mem _ m, fun o hp _ => by rw [upd_ne (ne_of_none hp n)]; exact hp⟩) fun dd fs h => by rw [upd_ne (ne_of_none h n)]; exact h⟩
/-- the hidden object at D, which no slot owns, is changed -/
theorem St0.hid (st : St0 K Tb H0 O0 O H σ ρ) (m : D ∈ O) (m0 : D ∉ O0) {l : List V} (hD : H D = some (.lst l)) (hs : ∀ (i : Nat) (s : Sl), s.Hold → ρ[i]? = some (some s) → σ[i]? ≠ some (some (.ref D))) {l' : List V} : St0 K Tb H0 O0 O (upd H D (.lst l')) σ ρ where
  ext := st.ext.updN (st.new D m m0) (fun c q z => by rw [hD] at z; exact (plain_lst l).1 c q (Option.some.inj z))
  sub := st.sub
  new := st.new
  al := fun b h => by
    by_cases hb : b = D
    · rw [hb, upd_same]; simp
    · rw [upd_ne hb]; exact st.al b h
  tab := fun P mp => by
    have hb : P ≠ D := tabG_ne (st.tab P mp) fun ps q => by rw [hD] at q; cases q
    exact (st.tab P mp).mono (fun ps h => by rw [upd_ne hb]; exact h) fun c q h => by
      rw [upd_ne fun z => (plain_lst l).1 c q (Option.some.inj (hD.symm.trans (by rw [← z]; exact h)))]
      exact h
  pln := fun b mb nb => by
    by_cases hb : b = D
    · exact ⟨_, by rw [hb]; exact upd_same, plain_lst l'⟩
    · obtain ⟨x, h, q⟩ := st.pln b mb nb
      exact ⟨x, by rw [upd_ne hb]; exact h, q⟩
  len := st.len
  slot := fun i x h => by
    obtain ⟨v, h1, h2⟩ := st.slot i x h
    refine ⟨v, h1, h2.mv (by rw [hide_upd m]; exact fun _ _ h _ => h) (fun hx p ev mp _ => ⟨mp, fun o hp _ => ?_⟩) fun dd fs h => ?_⟩
    · have hne : p ≠ D := fun e => hs i x hx h (by rw [h1, ev, e])
      rw [upd_ne hne]; exact hp
    · rw [upd_ne (fun e => by rw [e, hD] at h; cases h)]; exact h
  inj := st.inj
theorem Ext.unhide : Ext (hide O H) H where
  keep := Sub.unhide
  tab := fun b t => t.mono (fun ps h => (hide_some h).2) fun c q h => (hide_some h).2
  al := fun b h => by
    cases q : hide O H b with
    | none => exact absurd q h
    | some x => rw [(hide_some q).2]; simp
theorem hide_in {b : Addr} (h : b ∈ O) : hide O H b = none := by unfold hide; rw [if_pos h]
theorem hide_none {b : Addr} (h : H b = none) : hide O H b = none := by unfold hide; split <;> first | rfl | exact h
end
section
variable {X : Cx} {Tb : List Addr} {W : WX}
theorem ft_yes : PTs X [] (tDT X.K Tb W dYes) := ⟨fun pins s σ H Q I ⟨_, _, _, _, _, h⟩ => pts_nil.run pins s σ H Q I (h true H (Ext.refl _) rfl)⟩
theorem ft_one {c : Expr} {f : DnB} (h : PT X c (tDT X.K Tb W f)) : PTs X [c] (tDT X.K Tb W f) := pts_one h
/-- the turns of a comprehension's block -/
theorem lc_turns {K : PySem.W.Frag} {t : Tg} {ft : DnB} {fe : Dn} {vs : List Nat} {σ : L2.St} {ρ : Rho} {H0 H1 : Hp} {O0 O : List Addr} {J : It} {ds ys : List PyData} {Q : VK} (hv : ∀ i ∈ t.ixs, i ∈ vs)
    (st1 : St0 K Tb H0 O0 O H1 σ ρ) (it : ItD K (hide O H1) J ds) (hys : lcGo t ft fe (wipeR ρ vs) ds = .ok ys)
    (fin : ∀ D acc H', Ext H1 H' → H1 D = none → H' D = some (.lst acc) → ys.length ≤ sizeLine → RpAll K (hide (D :: O) H') acc ys → Q (.ref D) H') :
    ∀ D, H1 D = none → ∃ W : Nat → Nat → Hp → Prop, (∃ m, W 0 m (upd H1 D (.lst []))) ∧ ∀ i m H, W i m H →
      (J.stop i H ∧ Q (.ref D) H) ∨ (J.go i H ∧ ∃ Nx : Hp → Prop, (∀ H', Nx H' → ∃ m', m' < m ∧ W (i + 1) m' H') ∧ ∀ x H', J.yld i H x H' → tG K Tb t x (L2.wipe σ vs) H' fun σ2 H2 => L2.wipe σ2 vs = L2.wipe σ vs ∧ tDT K Tb W0 ft σ2 H2 fun b H3 =>
        if b = true then tD K Tb W0 fe σ2 H3 fun y H4 => ∃ acc, H4 D = some (.lst acc) ∧ acc.length < sizeLine ∧ Nx (upd H4 D (.lst (acc ++ [y]))) else Nx H3) := by
  intro D nD
  have aD : D ∉ O := st1.fresh nD
  have stw := (st1.wiped vs).more (o := .lst []) nD (plain_lst [])
  have aD0 : D ∉ O0 := fun m => aD (st1.sub D m)
  have own : ∀ (i : Nat) (s : Sl), s.Hold → (wipeR ρ vs)[i]? = some (some s) → (L2.wipe σ vs)[i]? ≠ some (some (.ref D)) := fun i s hs h1 h2 => aD ((st1.wiped vs).hold hs h1 h2).1
  have nO : ∀ b ∈ D :: O, hide O H1 b = none := fun b hb => by
    rcases List.mem_cons.mp hb with rfl | hb
    · exact hide_none nD
    · exact hide_in hb
  refine ⟨fun i m H' => i ≤ ds.length ∧ m = ds.length - i ∧ ∃ acc accD rest, St0 K Tb H0 O0 (D :: O) H' (L2.wipe σ vs) (wipeR ρ vs) ∧ Ext H1 H' ∧ H' D = some (.lst acc) ∧ RpAll K (hide (D :: O) H') acc accD ∧ acc.length ≤ i ∧ lcGo t ft fe (wipeR ρ vs) (ds.drop i) = .ok rest ∧ accD ++ rest = ys,
    ⟨ds.length, Nat.zero_le _, by simp, [], [], ys, stw, Ext.new nD, upd_same, .nil, Nat.le_refl _, hys, rfl⟩, ?_⟩
  rintro i m H' ⟨hi, rfl, acc, accD, rest, s1, e1, hD, ra, la, go, ey⟩
  have eG : Ext (hide O H1) H' := Ext.unhide.trans e1
  by_cases hlt : i < ds.length
  · refine .inr ⟨it.go i H' eG hlt, fun H2 => i + 1 ≤ ds.length ∧ ∃ acc accD rest, St0 K Tb H0 O0 (D :: O) H2 (L2.wipe σ vs) (wipeR ρ vs) ∧ Ext H1 H2 ∧ H2 D = some (.lst acc) ∧ RpAll K (hide (D :: O) H2) acc accD ∧ acc.length ≤ i + 1 ∧ lcGo t ft fe (wipeR ρ vs) (ds.drop (i + 1)) = .ok rest ∧ accD ++ rest = ys,
      fun H2 q => ⟨ds.length - (i + 1), by omega, q.1, rfl, q.2⟩, fun x H2 y => ?_⟩
    obtain ⟨e2, d, hd, rx⟩ := it.yld i H' (D :: O) x H2 eG nO s1.al hlt y
    have hdr : ds.drop i = d :: ds.drop (i + 1) := by
      obtain ⟨hl, hd'⟩ := List.getElem?_eq_some_iff.mp hd
      rw [List.drop_eq_getElem_cons hl, hd']
    rw [hdr] at go
    unfold lcGo at go
    cases et : t.set d (wipeR ρ vs) with
    | none => rw [et] at go; cases go
    | some ρ1 =>
      rw [et] at go
      obtain ⟨b, eb, go⟩ := nx_ok go
      have s2 := s1.step e2
      refine ⟨H0, O0, D :: O, wipeR ρ vs, ρ1, d, s2, rx, et, fun σ' st' ag => ⟨(ag.wipe hv).trans wipe_wipe, H0, O0, D :: O, ρ1, st', ?_⟩⟩
      rw [eb]
      intro b' H3 e3 r3
      cases (show b' = b from r3)
      have s3 := st'.step e3
      cases b with
      | false =>
        refine ⟨hlt, acc, accD, rest, s2.step e3, (e1.trans e2).trans e3, (e2.trans e3).keep D _ hD (fun _ q => by cases q), ra.mono (Sub.hide (e2.trans e3).keep), Nat.le_succ_of_le la, go, ey⟩
      | true =>
        obtain ⟨yd, ey1, go⟩ := nx_ok go
        obtain ⟨rs, er, go⟩ := nx_ok go
        cases go
        refine ⟨H0, O0, D :: O, ρ1, s3, ?_⟩
        rw [ey1]
        intro y H4 e4 r4
        have hD4 := ((e2.trans e3).trans e4).keep D _ hD (fun _ q => by cases q)
        have s4 := (s2.step e3).step e4
        have zl : acc.length < sizeLine := by have := it.len; omega
        refine ⟨acc, hD4, zl, hlt, acc ++ [y], accD ++ [yd], rs, s4.hid List.mem_cons_self aD0 hD4 own, (((e1.trans e2).trans e3).trans e4).updN nD (fun c q z => (plain_lst acc).1 c q (Option.some.inj (hD4.symm.trans z))), upd_same, ?_, ?_, er, ?_⟩
        · rw [hide_upd List.mem_cons_self]
          exact (ra.mono (Sub.hide ((e2.trans e3).trans e4).keep)).append (.one r4)
        · rw [List.length_append]; simp; exact la
        · rw [List.append_assoc]; exact ey
  · have ei : i = ds.length := by omega
    subst ei
    refine .inl ⟨it.stop H' eG, ?_⟩
    rw [List.drop_length] at go
    cases go
    rw [List.append_nil] at ey
    subst ey
    refine fin D acc H' e1 nD hD ?_ ra
    have := it.len
    have := ra.length
    omega
/-- the walk of a comprehension's block -/
theorem lc_walk {K : PySem.W.Frag} {t : Tg} {ft : DnB} {fe : Dn} {fi : DnL} {vs : List Nat} {σ : L2.St} {H : Hp} {Q : VK} (hv : ∀ i ∈ t.ixs, i ∈ vs) (h : tD K Tb W (dLc fi t ft fe vs) σ H Q) :
    tLc (tI K Tb W fi) (tG K Tb t) (tDT K Tb W0 ft) (tD K Tb W0 fe) vs σ H Q := by
  obtain ⟨H0, O0, O, ρ, st, h⟩ := h
  refine ⟨H0, O0, O, ρ, st, Post.then h fun ds J H1 e it k => ?_⟩
  cases q : lcGo t ft fe (wipeR ρ vs) ds with
  | exc x => rw [q] at k; exact k.elim
  | bad => rw [q] at k; exact k.elim
  | ok ys =>
    rw [q] at k
    refine lc_turns hv (st.step e) it q fun D acc H' e1 nD hD z ra => ?_
    have aD : D ∉ O := (st.step e).fresh nD
    exact k _ H' e1 (.lst (.of (by rw [hide_out aD]; exact hD)) z (ra.mono (Sub.less fun b hb => List.mem_cons_of_mem _ hb)))
/-- [e for t in i if c] -/
theorem fd_lc {elt tg iter : Expr} {ifs : List Expr} {scope : Scope} {own : List (Str × Nat)} {pos : Pos} {fi : DnL} {t : Tg} {ft : DnB} {fe : Dn} (hc : X.calm = true) (hN : X.N.Nodup) (hi : PI X tg iter (tI X.K Tb W fi)) (ok : BlkOk X.N X.env.scope scope own)
    (hg : ∀ (s : Shared) (H : Hp) (C : Addr) (cl : List (Str × Addr)) (fp : List Addr), PG (X.blk s H scope (compEnvC scope cl C X.env) fp) tg (tG X.K Tb t))
    (ht : ∀ (s : Shared) (H : Hp) (C : Addr) (cl : List (Str × Addr)) (fp : List Addr), PTs (X.blk s H scope (compEnvC scope cl C X.env) fp) ifs (tDT X.K Tb W0 ft))
    (he : ∀ (s : Shared) (H : Hp) (C : Addr) (cl : List (Str × Addr)) (fp : List Addr), PE (X.blk s H scope (compEnvC scope cl C X.env) fp) elt (tD X.K Tb W0 fe))
    (hv : ∀ i ∈ t.ixs, i ∈ own.map (·.2) := by decide) (hs : ∀ x, foldedSetIterable iter X.env x = pure x := by intro _; rfl) : PE X (.ListComp elt [⟨tg, iter, ifs, 0⟩] scope pos) (tD X.K Tb W (dLc fi t ft fe (own.map (·.2)))) :=
  (pe_lc hc hN hi ok hg ht he hs).by fun σ H Q h => lc_walk hv h
end
end PD
set_option Elab.async false
set_option linter.all false
set_option maxRecDepth 100000
set_option maxHeartbeats 1000000
namespace PD
open PySem PySem.Spec PyProof.Rows L2
inductive Out where
  | nx (ρ : Rho)
  | rt (d : PyData)
  | bk (ρ : Rho)
  | ct (ρ : Rho)
  | exc (e : Ex) (ρ : Rho)
  | bad
abbrev Sn := Rho → Out
def PostS (K : PySem.W.Frag) (Tb : List Addr) (W : WX) (H0 : Hp) (O0 : List Addr) (out : Out) (D : Ends) : Prop := match out with
  | .nx ρ => ∀ O σ H, St0 K Tb H0 O0 O H σ ρ → D.nx σ H
  | .rt d => ∀ v H, Ext H0 H → Rp K (hide O0 H) v d → D.rt v H
  | .bk ρ => ∀ O σ H, St0 K Tb H0 O0 O H σ ρ → D.bk σ H
  | .ct ρ => ∀ O σ H, St0 K Tb H0 O0 O H σ ρ → D.ct σ H
  | .exc e ρ => ∀ O σ H c d, St0 K Tb H0 O0 O H σ ρ → ExR K (hide O H) H c d e → W c d σ H
  | .bad => False
def tS (K : PySem.W.Frag) (Tb : List Addr) (W : WX) (g : Sn) : TS := fun D σ H => ∃ H0 O0 O ρ, St0 K Tb H0 O0 O H σ ρ ∧ PostS K Tb W H0 O0 (g ρ) D
/-- a result, then a statement's end -/
def oR {α : Type} (x : R α) (ρ : Rho) (k : α → Out) : Out := match x with
  | .ok a => k a
  | .exc e => .exc e ρ
  | .bad => .bad
def oO (x : Option Rho) : Out := match x with
  | some ρ => .nx ρ
  | none => .bad
def gSkip : Sn := .nx
def gSeq (g h : Sn) : Sn := fun ρ => match g ρ with
  | .nx ρ' => h ρ'
  | o => o
def gSet (f : Dn) (t : Tg) : Sn := fun ρ => oR (f ρ) ρ fun d => oO (t.set d ρ)
def gExpr (f : Dn) : Sn := fun ρ => oR (f ρ) ρ fun _ => .nx ρ
def gRet (f : Dn) : Sn := fun ρ => oR (f ρ) ρ .rt
def gIf (c : DnB) (g h : Sn) : Sn := fun ρ => oR (c ρ) ρ fun b => if b = true then g ρ else h ρ
def forGo (t : Tg) (g : Sn) : List PyData → Rho → Out
  | [], ρ => .nx ρ
  | d :: ds, ρ => match t.set d ρ with
    | some ρ1 => match g ρ1 with
      | .nx ρ2 => forGo t g ds ρ2
      | .ct ρ2 => forGo t g ds ρ2
      | .bk ρ2 => .nx ρ2
      | o => o
    | none => .bad
def gFor (fi : DnL) (t : Tg) (g : Sn) : Sn := fun ρ => oR (fi ρ) ρ fun ds => forGo t g ds ρ
def whGo (c : DnB) (g : Sn) : Nat → Rho → Out
  | 0, _ => .bad
  | n + 1, ρ => oR (c ρ) ρ fun b => if b = true then (match g ρ with
      | .nx ρ2 => whGo c g n ρ2
      | .ct ρ2 => whGo c g n ρ2
      | .bk ρ2 => .nx ρ2
      | o => o) else .nx ρ
def gWhile (c : DnB) (g : Sn) (fuel : Rho → Nat) : Sn := fun ρ => whGo c g (fuel ρ) ρ
/-- the list that slot i owns becomes a plain datum -/
def frz (i : Nat) (ρ : Rho) : Option Rho := match ρ[i]? with
  | some (some (.own ds)) => some (ρ.set i (some (.d (.list ds))))
  | _ => none
def gFrz (i : Nat) (g : Sn) : Sn := fun ρ => match frz i ρ with
  | some ρ' => g ρ'
  | none => .bad
/-- slot i owns a new list -/
def gOwn (f : Dn) (i : Nat) : Sn := fun ρ => oR (f ρ) ρ fun d => match d with
  | .list ds => .nx (ρ.set i (some (.own ds)))
  | _ => .bad
def ownAt (ρ : Rho) (i : Nat) (k : List PyData → Out) : Out := match ρ[i]? with
  | some (some (.own ds)) => k ds
  | _ => .bad
def gApp (i : Nat) (f : Dn) : Sn := fun ρ => ownAt ρ i fun ds => oR (f ρ) ρ fun d => if ds.length < sizeLine then .nx (ρ.set i (some (.own (ds ++ [d])))) else .bad
def thaw (ρ : Rho) : Rho := ρ.map fun s => match s with
  | some (.own ds) => some (.d (.list ds))
  | some (.dct ks) => some (.d (.dict (ks.map fun k => (.tuple (k.map .int), .bool true))))
  | some (.dk _) => none
  | s => s
def dThawB (f : DnB) : DnB := fun ρ => nx (f (thaw ρ)) .ok
def flat : PyData → Bool
  | .none => true
  | .bool _ => true
  | .int _ => true
  | .str _ => true
  | _ => false
def dThaw (f : Dn) : Dn := fun ρ => nx (f (thaw ρ)) fun d => if flat d = true then .ok d else .bad
section
variable {K : PySem.W.Frag} {Tb : List Addr} {W : WX} {H0 H0' H H' : Hp} {O0 O : List Addr} {ρ : Rho} {σ : L2.St} {p : Addr} {D : Ends}
theorem St0.init {vs : List V} {ds : List PyData} (n : Nat) (al : Al O H) (tb : ∀ P ∈ Tb, TabC H P) (r : RpAll K (hide O H) vs ds) : St0 K Tb H O O H (vs.map some ++ List.replicate n none) (ds.map (fun d => some (.d d)) ++ List.replicate n none) where
  ext := Ext.refl H
  sub := fun _ h => h
  new := fun b h h2 => absurd h h2
  al := al
  tab := tb
  pln := fun b m n => absurd m n
  len := by simp [r.length]
  slot := fun i s h => by
    have hi : i < ds.length := by
      by_cases hi : i < ds.length
      · exact hi
      · rw [List.getElem?_append_right (by simpa using hi), List.getElem?_replicate] at h
        split at h <;> cases h
    rw [List.getElem?_append_left (by simpa using hi), List.getElem?_map] at h
    cases e : ds[i]? with
    | none => rw [e] at h; cases h
    | some d =>
      rw [e] at h
      cases h
      obtain ⟨v, h1, h2⟩ := r.get' e
      refine ⟨v, ?_, h2⟩
      have hl : i < vs.length := by rw [r.length]; exact hi
      rw [List.getElem?_append_left (by simpa using hl), List.getElem?_map, h1]
      rfl
  inj := fun i j p xs ys hx _ h1 _ _ _ => by
    have hi : i < ds.length := by
      by_cases hi : i < ds.length
      · exact hi
      · rw [List.getElem?_append_right (by simpa using hi), List.getElem?_replicate] at h1
        split at h1 <;> cases h1
    rw [List.getElem?_append_left (by simpa using hi), List.getElem?_map] at h1
    cases e : ds[i]? with
    | none => rw [e] at h1; cases h1
    | some d => rw [e] at h1; cases h1; exact hx.elim
def rebase (O0 O : List Addr) (H : Hp) : Hp := hide (O.filter fun b => decide (b ∉ O0)) H
theorem mem_rebase {b : Addr} : b ∈ (O.filter fun b => decide (b ∉ O0)) ↔ b ∈ O ∧ b ∉ O0 := by
  rw [List.mem_filter, decide_eq_true_eq]
theorem St0.rebase (st : St0 K Tb H0 O0 O H σ ρ) : St0 K Tb (rebase O0 O H) O0 O H σ ρ :=
  ⟨Ext.unhide, st.sub, fun b h h2 => hide_in (mem_rebase.mpr ⟨h, h2⟩), st.al, st.tab, st.pln, st.len, st.slot, st.inj⟩
theorem St0.baseExt (st : St0 K Tb H0 O0 O H σ ρ) : Ext H0 (PD.rebase O0 O H) := by
  have out : ∀ b, H0 b ≠ none → PD.rebase O0 O H b = H b := fun b h => hide_out fun m => by
    obtain ⟨h1, h2⟩ := mem_rebase.mp m
    exact h (st.new b h1 h2)
  refine ⟨fun b o h t => ?_, fun b t => ?_, fun b h => ?_⟩
  · rw [out b (by rw [h]; simp)]
    exact st.ext.keep b o h t
  · refine (st.ext.tab b t).mono (fun ps h => ?_) fun c q h => ?_
    · obtain ⟨ps0, h0, _⟩ := t
      rw [out b (by rw [h0]; simp)]
      exact h
    · refine (hide_out fun m => ?_).trans h
      obtain ⟨m1, m2⟩ := mem_rebase.mp m
      obtain ⟨x, g1, g2⟩ := st.pln c m1 m2
      rw [h] at g1
      exact g2.1 c q (Option.some.inj g1).symm
  · rw [out b h]
    exact st.ext.al b h
theorem St0.unbase {O' : List Addr} {σ' : L2.St} {ρ' : Rho} (e : Ext H0 H0') (st : St0 K Tb H0' O0 O' H' σ' ρ') : St0 K Tb H0 O0 O' H' σ' ρ' :=
  ⟨e.trans st.ext, st.sub, fun b h h2 => by
    cases q : H0 b with
    | none => rfl
    | some x => exact absurd (st.new b h h2) (e.al b (by rw [q]; simp)), st.al, st.tab, st.pln, st.len, st.slot, st.inj⟩
theorem PostS.rebase {out : Out} (e : Ext H0 H0') (h : PostS K Tb W H0 O0 out D) : PostS K Tb W H0' O0 out D := by
  cases out with
  | nx ρ => exact fun O σ H st => h O σ H (st.unbase e)
  | bk ρ => exact fun O σ H st => h O σ H (st.unbase e)
  | ct ρ => exact fun O σ H st => h O σ H (st.unbase e)
  | rt d => exact fun v H e' r => h v H (e.trans e') r
  | exc x ρ => exact fun O σ H c d st => h O σ H c d (st.unbase e)
  | bad => exact h
theorem oR_post {α β : Type} {Rl : Hp → β → α → Prop} {x : R α} {k : α → Out} {Q : β → Hp → Prop} (st : St0 K Tb H0 O0 O H σ ρ) (h : PostS K Tb W H0 O0 (oR x ρ k) D)
    (q : ∀ a b H1, Ext H H1 → Rl H1 b a → PostS K Tb W H0 O0 (k a) D → Q b H1) : Post K O Rl (fun c d H => W c d σ H) H x Q := by
  cases x with
  | ok a => exact fun b H1 e r => q a b H1 e r h
  | exc e => exact fun c d H1 ex r => h O σ H1 c d (st.step ex) r
  | bad => exact h
/-- a list that slot i owns changes -/
theorem St0.ownSet {i : Nat} {ds ds' : List PyData} {vs' : List V} (st : St0 K Tb H0 O0 O H σ ρ) (hi : ρ[i]? = some (some (.own ds))) (hp : σ[i]? = some (some (.ref p))) (z : ds'.length ≤ sizeLine) (r : RpAll K (hide O H) vs' ds') :
    St0 K Tb H0 O0 O (upd H p (.lst vs')) σ (ρ.set i (some (.own ds'))) := by
  obtain ⟨v, h1, p', vs, h2, m, m0, hH, _, _⟩ := st.slot i _ hi
  rw [hp] at h1
  cases h1
  cases h2
  have il : i < ρ.length := (List.getElem?_eq_some_iff.mp hi).1
  have own : ∀ (j : Nat) (s : Sl), s.Hold → j ≠ i → ρ[j]? = some (some s) → σ[j]? ≠ some (some (.ref p)) := fun j s hs hj h1 h2 => hj (st.inj j i p s (.own ds) hs trivial h1 hi h2 hp)
  refine ⟨st.ext.updN (st.new p m m0) (fun c q z => (plain_lst vs).1 c q (Option.some.inj (hH.symm.trans z))), st.sub, st.new, fun b h => ?_, fun P mp => ?_, fun b mb nb => ?_, by rw [List.length_set]; exact st.len, fun j x h => ?_, fun j k q xs ys hx hy h1 h2 h3 h4 => ?_⟩
  · by_cases hb : b = p
    · rw [hb, upd_same]; simp
    · rw [upd_ne hb]; exact st.al b h
  · have hb : P ≠ p := tabG_ne (st.tab P mp) fun ps q => by rw [hH] at q; cases q
    exact (st.tab P mp).mono (fun ps h => by rw [upd_ne hb]; exact h) fun c q h => by
      rw [upd_ne fun z => (plain_lst vs).1 c q (Option.some.inj (hH.symm.trans (by rw [← z]; exact h)))]
      exact h
  · by_cases hb : b = p
    · exact ⟨_, by rw [hb]; exact upd_same, plain_lst vs'⟩
    · obtain ⟨x, h, q⟩ := st.pln b mb nb
      exact ⟨x, by rw [upd_ne hb]; exact h, q⟩
  · by_cases e : i = j
    · subst e
      rw [List.getElem?_set_self il] at h
      cases h
      exact ⟨_, hp, p, vs', rfl, m, m0, upd_same, z, by rw [hide_upd m]; exact r⟩
    · rw [List.getElem?_set_ne e] at h
      obtain ⟨v, h1, h2⟩ := st.slot j x h
      refine ⟨v, h1, h2.mv (by rw [hide_upd m]; exact fun _ _ h _ => h) (fun hx q ev mq _ => ⟨mq, fun o hq _ => ?_⟩) fun dd fs h => ?_⟩
      · have hne : q ≠ p := fun e2 => own j x hx (fun z => e z.symm) h (by rw [h1, ev, e2])
        rw [upd_ne hne]; exact hq
      · rw [upd_ne (fun e => by rw [e, hH] at h; cases h)]; exact h
  · have g : ∀ (j : Nat) (s : Sl), s.Hold → (ρ.set i (some (.own ds')))[j]? = some (some s) → ∃ s', s'.Hold ∧ ρ[j]? = some (some s') := fun j s hs h => by
      by_cases e : i = j
      · subst e; exact ⟨.own ds, trivial, hi⟩
      · rw [List.getElem?_set_ne e] at h; exact ⟨s, hs, h⟩
    obtain ⟨xs', x1, g1⟩ := g j xs hx h1
    obtain ⟨ys', y1, g2⟩ := g k ys hy h2
    exact st.inj j k q xs' ys' x1 y1 g1 g2 h3 h4
/-- a new list becomes slot i's own -/
theorem St0.ownNew {i : Nat} {ds : List PyData} {vs : List V} (st : St0 K Tb H0 O0 O H σ ρ) (e : Ext H H') (n : H p = none) (hp : H' p = some (.lst vs)) (z : ds.length ≤ sizeLine) (r : RpAll K (hide (p :: O) H') vs ds) :
    St0 K Tb H0 O0 (p :: O) H' (σ.set i (some (.ref p))) (ρ.set i (some (.own ds))) := by
  have nO : p ∉ O := st.fresh n
  have n0 : H0 p = none := by
    cases q : H0 p with
    | none => rfl
    | some x => exact absurd n (st.ext.al p (by rw [q]; simp))
  have sub : Sub (hide O H) (hide (p :: O) H') := fun b o h t => by
    obtain ⟨h1, h2⟩ := hide_some h
    have hb : b ≠ p := ne_of_none h2 n
    rw [hide_out (by rw [List.mem_cons, not_or]; exact ⟨hb, h1⟩)]
    exact e.keep b o h2 t
  have nown : ∀ (j : Nat) (s : Sl), s.Hold → ρ[j]? = some (some s) → σ[j]? ≠ some (some (.ref p)) := fun j s hs h h2 => nO (st.hold hs h h2).1
  refine ⟨st.ext.trans e, fun b h => List.mem_cons_of_mem _ (st.sub b h), fun b h h2 => ?_, fun b h => ?_, fun P m => e.tab P (st.tab P m), fun b mb nb => ?_, by rw [List.length_set, List.length_set]; exact st.len, fun j s h => ?_, fun j k q xs ys hx hy h1 h2 h3 h4 => ?_⟩
  · rcases List.mem_cons.mp h with rfl | h
    · exact n0
    · exact st.new b h h2
  · rcases List.mem_cons.mp h with rfl | h
    · rw [hp]; simp
    · exact e.al b (st.al b h)
  · rcases List.mem_cons.mp mb with rfl | mb
    · exact ⟨_, hp, plain_lst vs⟩
    · obtain ⟨x, h, q⟩ := st.pln b mb nb
      exact ⟨x, e.keep b x h q.2, q⟩
  · by_cases ej : i = j
    · subst ej
      have il : i < ρ.length := by
        have := (List.getElem?_eq_some_iff.mp h).1
        rw [List.length_set] at this
        exact this
      rw [List.getElem?_set_self il] at h
      cases h
      exact ⟨_, by rw [List.getElem?_set_self (by rw [st.len]; exact il)], p, vs, rfl, List.mem_cons_self, fun m => nO (st.sub p m), hp, z, r⟩
    · rw [List.getElem?_set_ne ej] at h ⊢
      obtain ⟨v, h1, h2⟩ := st.slot j s h
      exact ⟨v, h1, h2.mv sub (fun _ q _ mq _ => ⟨List.mem_cons_of_mem _ mq, fun o hq n => e.keep q o hq n⟩) fun dd fs h => e.keep dd _ h fun _ z => by cases z⟩
  · have lt : ∀ (j : Nat) (s : Sl), i = j → (ρ.set i (some (.own ds)))[j]? = some (some s) → j < σ.length := fun j xs ej h => by
      have := (List.getElem?_eq_some_iff.mp h).1
      rw [List.length_set] at this
      rw [st.len]; exact this
    by_cases ej : i = j
    · by_cases ek : i = k
      · rw [← ej, ← ek]
      · subst ej
        rw [List.getElem?_set_self (lt _ _ rfl h1)] at h3
        cases h3
        rw [List.getElem?_set_ne ek] at h2 h4
        exact absurd h4 (nown k ys hy h2)
    · by_cases ek : i = k
      · subst ek
        rw [List.getElem?_set_self (lt _ _ rfl h2)] at h4
        cases h4
        rw [List.getElem?_set_ne ej] at h1 h3
        exact absurd h3 (nown j xs hx h1)
      · rw [List.getElem?_set_ne ej] at h1 h3
        rw [List.getElem?_set_ne ek] at h2 h4
        exact st.inj j k q xs ys hx hy h1 h2 h3 h4
/-- slot i's own list becomes a datum -/
theorem St0.frz {i : Nat} {ρ' : Rho} (st : St0 K Tb H0 O0 O H σ ρ) (h : PD.frz i ρ = some ρ') : ∃ O', St0 K Tb H0 O0 O' H σ ρ' := by
  unfold PD.frz at h
  split at h
  · rename_i ds hi
    cases h
    obtain ⟨v, h1, p, vs, rfl, m, m0, hp, z, r⟩ := st.slot i _ hi
    have il : i < ρ.length := (List.getElem?_eq_some_iff.mp hi).1
    have mem : ∀ b, b ∈ O.filter (fun b => decide (b ≠ p)) ↔ b ∈ O ∧ b ≠ p := fun b => by rw [List.mem_filter, decide_eq_true_eq]
    have sub : Sub (hide O H) (hide (O.filter fun b => decide (b ≠ p)) H) := Sub.less fun b hb => ((mem b).mp hb).1
    refine ⟨O.filter fun b => decide (b ≠ p), st.ext, fun b hb => (mem b).mpr ⟨st.sub b hb, fun e => m0 (by rw [← e]; exact hb)⟩, fun b hb => st.new b ((mem b).mp hb).1, fun b hb => st.al b ((mem b).mp hb).1, st.tab, fun b hb => st.pln b ((mem b).mp hb).1, by rw [List.length_set]; exact st.len, fun j s hs => ?_, fun j k q xs ys hx hy h2 h3 h4 h5 => ?_⟩
    · by_cases ej : i = j
      · subst ej
        rw [List.getElem?_set_self il] at hs
        cases hs
        refine ⟨_, h1, .lst (.of ?_) z (r.mono sub)⟩
        rw [hide_out (fun hb => ((mem p).mp hb).2 rfl)]
        exact hp
      · rw [List.getElem?_set_ne ej] at hs
        obtain ⟨v, g1, g2⟩ := st.slot j s hs
        exact ⟨v, g1, g2.mv sub (fun hx q ev mq _ => ⟨(mem q).mpr ⟨mq, fun e => ej (st.inj i j p (.own ds) s trivial hx hi hs h1 (by rw [g1, ev, e]))⟩, fun o hq _ => hq⟩) fun _ _ h => h⟩
    · by_cases ej : i = j
      · subst ej
        rw [List.getElem?_set_self il] at h2
        cases h2
        exact hx.elim
      · by_cases ek : i = k
        · subst ek
          rw [List.getElem?_set_self il] at h3
          cases h3
          exact hy.elim
        · rw [List.getElem?_set_ne ej] at h2
          rw [List.getElem?_set_ne ek] at h3
          exact st.inj j k q xs ys hx hy h2 h3 h4 h5
  · cases h
end
section
variable {X : Cx} {Tb : List Addr} {W : WX} {e c : Expr} {f : Dn} {fb : DnB} {g h : Sn} {pos : Pos} {st : Stmt} {sts : List Stmt}
theorem fs_nil : PSs X [] (tS X.K Tb W gSkip) := pss_nil.by fun D σ H ⟨H0, O0, O, ρ, st, h⟩ => h O σ H st
theorem fs_cons (h1 : PS X st (tS X.K Tb W g)) (h2 : PSs X sts (tS X.K Tb W h)) : PSs X (st :: sts) (tS X.K Tb W (gSeq g h)) := (pss_cons h1 h2).by fun D σ H ⟨H0, O0, O, ρ, st, q⟩ => ⟨H0, O0, O, ρ, st, by
  unfold gSeq at q
  cases e : g ρ with
  | nx ρ' => rw [e] at q; exact fun O' σ' H' st' => ⟨H0, O0, O', ρ', st', q⟩
  | rt d => rw [e] at q; exact q
  | bk ρ' => rw [e] at q; exact q
  | ct ρ' => rw [e] at q; exact q
  | exc x ρ' => rw [e] at q; exact q
  | bad => rw [e] at q; exact q⟩
theorem fs_one (h1 : PS X st (tS X.K Tb W g)) : PSs X [st] (tS X.K Tb W g) := pss_one h1
theorem fs_frz (i : Nat) (h1 : PSs X sts (tS X.K Tb W g)) : PSs X sts (tS X.K Tb W (gFrz i g)) := h1.by fun D σ H ⟨H0, O0, O, ρ, st, q⟩ => by
  unfold gFrz at q
  cases e : frz i ρ with
  | none => rw [e] at q; exact q.elim
  | some ρ' =>
    rw [e] at q
    obtain ⟨O', st'⟩ := st.frz e
    exact ⟨H0, O0, O', ρ', st', q⟩
theorem fs_ret (he : PE X e (tD X.K Tb W f)) : PS X (.Return (some e) pos) (tS X.K Tb W (gRet f)) := (ps_ret he).by fun D σ H ⟨H0, O0, O, ρ, st, h⟩ => ⟨H0, O0, O, ρ, st, oR_post st h fun d v H1 e r k => k v H1 (st.ext.trans e) (r.mono (Sub.less st.sub))⟩
theorem fs_if {a b : List Stmt} (hc : PT X c (tDT X.K Tb W fb)) (ha : PSs X a (tS X.K Tb W g)) (hb : PSs X b (tS X.K Tb W h)) : PS X (.If c a b pos) (tS X.K Tb W (gIf fb g h)) := (ps_if hc ha hb).by fun D σ H ⟨H0, O0, O, ρ, st, q⟩ => ⟨H0, O0, O, ρ, st, oR_post st q fun b b' H1 e r k => by
  cases (show b' = b from r)
  cases b with
  | true => exact ⟨H0, O0, O, ρ, st.step e, k⟩
  | false => exact ⟨H0, O0, O, ρ, st.step e, k⟩⟩
/-- name = e -/
theorem fs_set {i : Nat} {x : Str} {pos' : Pos} (hN : X.N.Nodup) (hi : X.N[i]? = some x) (hx : Loc X.env.scope x) (he : PE X e (tD X.K Tb W f)) (hs : swapsWith e (some (.Name x pos')) pos.line X.env = pure false := by rfl)
    (hf : X.fn x = true ∨ X.env.scope.names.lookup x = some .local := by first | exact .inl rfl | exact .inr rfl | assumption) : PS X (.Assign [.Name x pos'] e pos) (tS X.K Tb W (gSet f (.nm i))) := (ps_set hN hi hx he hs hf).by fun D σ H ⟨H0, O0, O, ρ, st, h⟩ => ⟨H0, O0, O, ρ, st, oR_post st h fun d v H1 e r k => by
  unfold Tg.set at k
  exact k O _ H1 ((st.step e).set r)⟩
/-- target = e -/
theorem fs_asg {tg : Expr} {t : Tg} (he : PE X e (tD X.K Tb W f)) (hg : PG X tg (tG X.K Tb t)) (hs : swapsWithSole [tg] e pos.line X.env = pure false := by rfl) (hw : swappedStores [tg] e X.env = pure none := by rfl)
    (h1 : (assignEach [tg] X.env).map (·.2) = [assign tg X.env] := by rfl) : PS X (.Assign [tg] e pos) (tS X.K Tb W (gSet f t)) := (ps_asg he hg hs hw h1).by fun D σ H ⟨H0, O0, O, ρ, st, h⟩ => ⟨H0, O0, O, ρ, st, oR_post st h fun d v H1 e r k => by
  cases q : t.set d ρ with
  | none => rw [q] at k; exact k.elim
  | some ρ' =>
    rw [q] at k
    exact ⟨H0, O0, O, ρ, ρ', d, st.step e, r, q, fun σ' st' _ => k O σ' H1 st'⟩⟩
/-- name = [.. for ..] -/
theorem fs_setLc {i : Nat} {y : Str} {py : Pos} {elt tg iter : Expr} {ifs : List Expr} {scope : Scope} {own : List (Str × Nat)} {spos : Pos} {fi : DnL} {t : Tg} {ft : DnB} {fe : Dn} (hc : X.calm = true) (hN : X.N.Nodup) (hy : X.N[i]? = some y) (hyl : X.env.scope.names.lookup y = some .local)
    (hsw : swapsWith (.ListComp elt [⟨tg, iter, ifs, 0⟩] scope pos) (some (.Name y py)) spos.line X.env = pure true) (hi : PI X tg iter (tI X.K Tb W fi)) (ok : BlkOk X.N X.env.scope scope own)
    (hg : ∀ (s : Shared) (H : Hp) (C : Addr) (cl : List (Str × Addr)) (fp : List Addr), PG (X.blk s H scope (compEnvC scope cl C X.env) fp) tg (tG X.K Tb t))
    (ht : ∀ (s : Shared) (H : Hp) (C : Addr) (cl : List (Str × Addr)) (fp : List Addr), PTs (X.blk s H scope (compEnvC scope cl C X.env) fp) ifs (tDT X.K Tb W0 ft))
    (he : ∀ (s : Shared) (H : Hp) (C : Addr) (cl : List (Str × Addr)) (fp : List Addr), PE (X.blk s H scope (compEnvC scope cl C X.env) fp) elt (tD X.K Tb W0 fe))
    (hv : ∀ i ∈ t.ixs, i ∈ own.map (·.2) := by decide) (hs : ∀ x, foldedSetIterable iter X.env x = pure x := by intro _; rfl) :
    PS X (.Assign [.Name y py] (.ListComp elt [⟨tg, iter, ifs, 0⟩] scope pos) spos) (tS X.K Tb W (gSet (dLc fi t ft fe (own.map (·.2))) (.nm i))) :=
  (ps_setLc hc hN hy hyl hsw hi ok hg ht he hs).by fun D σ H ⟨H0, O0, O, ρ, st, h⟩ => lc_walk (W := W) (Q := fun x H1 => gName i x σ H1 D.nx) hv ⟨H0, O0, O, ρ, st, oR_post st h fun d v H1 e r k => by
    unfold Tg.set at k
    exact k O _ H1 ((st.step e).set r)⟩
theorem fs_for {tg iter : Expr} {body : List Stmt} {fi : DnL} {t : Tg} (hp : PassesOwn (model X.prog X.w) X.A X.env X.xe) (hc : X.calm = true) (hi : PI X tg iter (tI X.K Tb W fi)) (hg : PG X tg (tG X.K Tb t)) (hb : PSs X body (tS X.K Tb W g))
    (hs : ∀ x, foldedSetIterable iter X.env x = pure x := by intro _; rfl) : PS X (.For tg iter body [] pos) (tS X.K Tb W (gFor fi t g)) := (ps_for hp hc hi hg hb hs).by fun D σ H ⟨H0, O0, O, ρ, st, h⟩ => ⟨H0, O0, O, ρ, st, oR_post st h fun ds J H1 e it k => by
  have st1 := (st.step e)
  have eB : Ext H0 (rebase O0 O H1) := st1.baseExt
  have k1 := PostS.rebase eB k
  have eG : Ext (hide O H1) (rebase O0 O H1) := by
    have out : ∀ b o, hide O H1 b = some o → rebase O0 O H1 b = some o := fun b o h => by
      obtain ⟨h1, h2⟩ := hide_some h
      unfold rebase
      rw [hide_out fun m => h1 (mem_rebase.mp m).1]
      exact h2
    refine ⟨fun b o h _ => out b o h, fun b t => t.mono (fun ps h => out b _ h) fun c q h => out c _ h, fun b h => ?_⟩
    cases q : hide O H1 b with
    | none => exact absurd q h
    | some x => rw [out b x q]; simp
  refine ⟨fun i m σ' H' => i ≤ ds.length ∧ m = ds.length - i ∧ ∃ O' ρ', St0 X.K Tb (rebase O0 O H1) O0 O' H' σ' ρ' ∧ PostS X.K Tb W (rebase O0 O H1) O0 (forGo t g (ds.drop i) ρ') D,
    ⟨ds.length, Nat.zero_le _, by simp, O, ρ, st1.rebase, k1⟩, ?_⟩
  rintro i m σ' H' ⟨hi, rfl, O', ρ', s1, k2⟩
  have eH : Ext (hide O H1) H' := eG.trans s1.ext
  have nG : ∀ b ∈ O', hide O H1 b = none := fun b hb => by
    by_cases h0 : b ∈ O0
    · exact hide_in (st1.sub b h0)
    · have q := s1.new b hb h0
      cases z : hide O H1 b with
      | none => rfl
      | some x =>
        obtain ⟨z1, z2⟩ := hide_some z
        unfold rebase at q
        rw [hide_out fun m => z1 (mem_rebase.mp m).1, z2] at q
        cases q
  by_cases hlt : i < ds.length
  · refine .inr ⟨it.go i H' eH hlt, fun σ2 H2 => i + 1 ≤ ds.length ∧ ∃ O' ρ', St0 X.K Tb (rebase O0 O H1) O0 O' H2 σ2 ρ' ∧ PostS X.K Tb W (rebase O0 O H1) O0 (forGo t g (ds.drop (i + 1)) ρ') D,
      fun σ2 H2 q => ⟨ds.length - (i + 1), by omega, q.1, rfl, q.2⟩, fun x H2 y => ?_⟩
    obtain ⟨e2, d, hd, rx⟩ := it.yld i H' O' x H2 eH nG s1.al hlt y
    have hdr : ds.drop i = d :: ds.drop (i + 1) := by
      obtain ⟨hl, hd'⟩ := List.getElem?_eq_some_iff.mp hd
      rw [List.drop_eq_getElem_cons hl, hd']
    rw [hdr] at k2
    unfold forGo at k2
    cases et : t.set d ρ' with
    | none => rw [et] at k2; exact k2.elim
    | some ρ1 =>
      rw [et] at k2
      refine ⟨_, O0, O', ρ', ρ1, d, s1.step e2, rx, et, fun σ3 s3 _ => ⟨_, O0, O', ρ1, s3, ?_⟩⟩
      cases eg : g ρ1 with
      | nx ρ2 => simp only [eg] at k2; exact fun O4 σ4 H4 s4 => ⟨hlt, O4, ρ2, s4, k2⟩
      | ct ρ2 => simp only [eg] at k2; exact fun O4 σ4 H4 s4 => ⟨hlt, O4, ρ2, s4, k2⟩
      | bk ρ2 => simp only [eg] at k2; exact k2
      | rt d => simp only [eg] at k2; exact k2
      | exc x ρ2 => simp only [eg] at k2; exact k2
      | bad => simp only [eg] at k2; exact k2
  · have ei : i = ds.length := by omega
    subst ei
    rw [List.drop_length] at k2
    exact .inl ⟨it.stop H' eH, k2 O' σ' H' s1⟩⟩
theorem fs_while {body : List Stmt} {fuel : Rho → Nat} (hp : PassesOwn (model X.prog X.w) X.A X.env X.xe) (hc : PT X c (tDT X.K Tb W fb)) (hb : PSs X body (tS X.K Tb W g)) : PS X (.While c body [] pos) (tS X.K Tb W (gWhile fb g fuel)) := (ps_while hp hc hb).by fun D σ H ⟨H0, O0, O, ρ, st, h⟩ => by
  refine ⟨fun m σ' H' => ∃ O' ρ', St0 X.K Tb H0 O0 O' H' σ' ρ' ∧ PostS X.K Tb W H0 O0 (whGo fb g m ρ') D, ⟨fuel ρ, O, ρ, st, h⟩, ?_⟩
  rintro m σ' H' ⟨O', ρ', s1, k⟩
  cases m with
  | zero => exact k.elim
  | succ m =>
    refine ⟨H0, O0, O', ρ', s1, oR_post s1 k fun b b' H1 e r k => ?_⟩
    cases (show b' = b from r)
    cases b with
    | false => exact k O' σ' H1 (s1.step e)
    | true =>
      refine ⟨fun σ2 H2 => ∃ O' ρ', St0 X.K Tb H0 O0 O' H2 σ2 ρ' ∧ PostS X.K Tb W H0 O0 (whGo fb g m ρ') D, fun σ2 H2 q => ⟨m, Nat.lt_succ_self _, q⟩, H0, O0, O', ρ', s1.step e, ?_⟩
      simp only [if_true] at k
      cases eg : g ρ' with
      | nx ρ2 => simp only [eg] at k; exact fun O4 σ4 H4 s4 => ⟨O4, ρ2, s4, k⟩
      | ct ρ2 => simp only [eg] at k; exact fun O4 σ4 H4 s4 => ⟨O4, ρ2, s4, k⟩
      | bk ρ2 => simp only [eg] at k; exact k
      | rt d => simp only [eg] at k; exact k
      | exc x ρ2 => simp only [eg] at k; exact k
      | bad => simp only [eg] at k; exact k
end
end PD
set_option Elab.async false
set_option linter.all false
set_option maxRecDepth 100000
set_option maxHeartbeats 1000000
namespace PD
open PySem PySem.Spec PyProof.Rows L2
/-- an expression whose value is a new list -/
def tN (K : PySem.W.Frag) (Tb : List Addr) (W : WX) (f : Dn) : TE := fun σ H Q => ∃ H0 O0 O ρ, St0 K Tb H0 O0 O H σ ρ ∧ match f ρ with
  | .ok (.list ds) => ∀ p vs H', Ext H H' → H p = none → H' p = some (.lst vs) → ds.length ≤ sizeLine → RpAll K (hide (p :: O) H') vs ds → Q (.ref p) H'
  | .exc e => AftX K O H e fun c d H => W c d σ H
  | _ => False
section
variable {K : PySem.W.Frag} {Tb : List Addr} {W : WX} {H0 H H' H1 : Hp} {O0 O : List Addr} {ρ : Rho} {σ : L2.St} {p : Addr} {D : Ends} {ds : List PyData} {xs : List V}
theorem RpAll.beside (al : Al O H) (n : H p = none) (r : RpAll K (hide O H) xs ds) {o : HO} : RpAll K (hide (p :: O) (upd H p o)) xs ds := r.mono fun b x h t => by
  obtain ⟨h1, h2⟩ := hide_some h
  have hb : b ≠ p := ne_of_none h2 n
  rw [hide_out (by rw [List.mem_cons, not_or]; exact ⟨hb, h1⟩), upd_ne hb]
  exact h2
end
section
variable {X : Cx} {Tb : List Addr} {W : WX} {e : Expr} {es : List Expr} {f : Dn} {gl : DnL} {pos p : Pos} {x : Str}
/-- f ρ is a list: what is wanted once the parts are known -/
theorem tN_of {K : PySem.W.Frag} {O : List Addr} {H : Hp} {σ : L2.St} {Q : VK} {α β : Type} {Rl : Hp → β → α → Prop} {x : R α} {u : α → R PyData} {Q1 : β → Hp → Prop}
    (h : match x >>= u with
      | .ok (.list ds) => ∀ p vs H', Ext H H' → H p = none → H' p = some (.lst vs) → ds.length ≤ sizeLine → RpAll K (hide (p :: O) H') vs ds → Q (.ref p) H'
      | .exc e => AftX K O H e fun c d H => W c d σ H
      | _ => False)
    (hu : ∀ a e, u a ≠ .exc e)
    (k : ∀ a b H1, Ext H H1 → Rl H1 b a → (∀ ds, u a = .ok (.list ds) → (∀ p vs H', Ext H1 H' → H1 p = none → H' p = some (.lst vs) → ds.length ≤ sizeLine → RpAll K (hide (p :: O) H') vs ds → Q (.ref p) H') → Q1 b H1)) (nb : ∀ a, (∃ ds, u a = .ok (.list ds)) ∨ (match u a with | .ok (.list _) => True | _ => False) → True := by intros; trivial) :
    Post K O Rl (fun c d H => W c d σ H) H x Q1 := by
  cases x with
  | exc e => exact h
  | bad => exact h.elim
  | ok a =>
    intro b H1 ex r
    have h' : match u a with
      | .ok (.list ds) => ∀ p vs H', Ext H H' → H p = none → H' p = some (.lst vs) → ds.length ≤ sizeLine → RpAll K (hide (p :: O) H') vs ds → Q (.ref p) H'
      | .exc e => AftX K O H e fun c d H => W c d σ H
      | _ => False := h
    cases hu2 : u a with
    | bad => rw [hu2] at h'; exact h'.elim
    | exc e => exact absurd hu2 (hu a e)
    | ok d =>
      rw [hu2] at h'
      cases d with
      | list ds =>
        refine k a b H1 ex r ds hu2 fun p vs H' e2 n hp z rr => h' p vs H' (ex.trans e2) ?_ hp z rr
        cases q : H p with
        | none => rfl
        | some o => exact absurd n (ex.al p (by rw [q]; simp))
      | _ => exact h'.elim
theorem fn_lst (h : PA X es (tDs X.K Tb W gl)) : PE X (.List es pos) (tN X.K Tb W (dLst gl)) := (pe_lst h).by fun σ H Q ⟨H0, O0, O, ρ, st, h⟩ => by
  refine ⟨H0, O0, O, ρ, st, tN_of (u := fun xs => if xs.length ≤ sizeLine then .ok (.list xs) else .bad) h (fun a e q => by split at q <;> cases q) fun ds vs H1 ex r ds' e k => ?_⟩
  split at e
  · rename_i z
    cases e
    exact ⟨by rw [r.length]; exact z, fun p hp => k p vs _ (Ext.new hp) hp upd_same z (r.beside (st.step ex).al hp)⟩
  · cases e
/-- the slot's name takes the new list as its own -/
theorem own_end {K : PySem.W.Frag} {H0 H : Hp} {O0 O : List Addr} {ρ : Rho} {σ : L2.St} {D : Ends} {i : Nat} (st : St0 K Tb H0 O0 O H σ ρ) (h : PostS K Tb W H0 O0 (gOwn f i ρ) D) : tN K Tb W f σ H fun x H1 => D.nx (σ.set i (some x)) H1 := by
  refine ⟨H0, O0, O, ρ, st, ?_⟩
  unfold gOwn at h
  cases e : f ρ with
  | bad => rw [e] at h; exact h.elim
  | exc x => rw [e] at h; exact fun c d H1 ex r => h O σ H1 c d (st.step ex) r
  | ok d =>
    rw [e] at h
    cases d with
    | list ds => exact fun p vs H' ex n hp z r => h _ _ H' (st.ownNew ex n hp z r)
    | _ => exact h.elim
theorem fs_own {i : Nat} {pos' : Pos} (hN : X.N.Nodup) (hi : X.N[i]? = some x) (hx : Loc X.env.scope x) (he : PE X e (tN X.K Tb W f)) (hs : swapsWith e (some (.Name x pos')) pos.line X.env = pure false := by rfl)
    (hf : X.fn x = true ∨ X.env.scope.names.lookup x = some .local := by first | exact .inl rfl | exact .inr rfl | assumption) : PS X (.Assign [.Name x pos'] e pos) (tS X.K Tb W (gOwn f i)) := (ps_set hN hi hx he hs hf).by fun D σ H ⟨H0, O0, O, ρ, st, h⟩ => own_end st h
/-- name = [.. for ..], the name the list's only owner -/
theorem lc_walkN {K : PySem.W.Frag} {t : Tg} {ft : DnB} {fe : Dn} {fi : DnL} {vs : List Nat} {σ : L2.St} {H : Hp} {Q : VK} (hv : ∀ i ∈ t.ixs, i ∈ vs) (h : tN K Tb W (dLc fi t ft fe vs) σ H Q) :
    tLc (tI K Tb W fi) (tG K Tb t) (tDT K Tb W0 ft) (tD K Tb W0 fe) vs σ H Q := by
  obtain ⟨H0, O0, O, ρ, st, h⟩ := h
  refine ⟨H0, O0, O, ρ, st, tN_of (x := fi ρ) (u := fun ds => nx (lcGo t ft fe (wipeR ρ vs) ds) fun ys => .ok (.list ys)) h (fun a e q => by cases q2 : lcGo t ft fe (wipeR ρ vs) a <;> rw [q2] at q <;> cases q) fun ds J H1 ex it ds' e k => ?_⟩
  obtain ⟨ys, q, e⟩ := nx_ok e
  cases e
  exact lc_turns hv (st.step ex) it q fun D acc H' e1 nD hD z ra => k D acc H' e1 nD hD z ra
theorem fs_ownLc {i : Nat} {y : Str} {py : Pos} {elt tg iter : Expr} {ifs : List Expr} {scope : Scope} {own : List (Str × Nat)} {spos : Pos} {fi : DnL} {t : Tg} {ft : DnB} {fe : Dn} (hc : X.calm = true) (hN : X.N.Nodup) (hy : X.N[i]? = some y) (hyl : X.env.scope.names.lookup y = some .local)
    (hsw : swapsWith (.ListComp elt [⟨tg, iter, ifs, 0⟩] scope pos) (some (.Name y py)) spos.line X.env = pure true) (hi : PI X tg iter (tI X.K Tb W fi)) (ok : BlkOk X.N X.env.scope scope own)
    (hg : ∀ (s : Shared) (H : Hp) (C : Addr) (cl : List (Str × Addr)) (fp : List Addr), PG (X.blk s H scope (compEnvC scope cl C X.env) fp) tg (tG X.K Tb t))
    (ht : ∀ (s : Shared) (H : Hp) (C : Addr) (cl : List (Str × Addr)) (fp : List Addr), PTs (X.blk s H scope (compEnvC scope cl C X.env) fp) ifs (tDT X.K Tb W0 ft))
    (he : ∀ (s : Shared) (H : Hp) (C : Addr) (cl : List (Str × Addr)) (fp : List Addr), PE (X.blk s H scope (compEnvC scope cl C X.env) fp) elt (tD X.K Tb W0 fe))
    (hv : ∀ i ∈ t.ixs, i ∈ own.map (·.2) := by decide) (hs : ∀ x, foldedSetIterable iter X.env x = pure x := by intro _; rfl) :
    PS X (.Assign [.Name y py] (.ListComp elt [⟨tg, iter, ifs, 0⟩] scope pos) spos) (tS X.K Tb W (gOwn (dLc fi t ft fe (own.map (·.2))) i)) :=
  (ps_setLc hc hN hy hyl hsw hi ok hg ht he hs).by fun D σ H ⟨H0, O0, O, ρ, st, h⟩ => lc_walkN (W := W) (Q := fun x H1 => gName i x σ H1 D.nx) hv (own_end st h)
/-- the list at slot i, at the place of a method's receiver -/
theorem own_at {K : PySem.W.Frag} {H0 H : Hp} {O0 O : List Addr} {ρ : Rho} {σ : L2.St} {D : Ends} {i : Nat} {k : List PyData → Out} (st : St0 K Tb H0 O0 O H σ ρ) (h : PostS K Tb W H0 O0 (ownAt ρ i k) D) :
    ∃ ds p vs, ρ[i]? = some (some (.own ds)) ∧ σ[i]? = some (some (.ref p)) ∧ H p = some (.lst vs) ∧ ds.length ≤ sizeLine ∧ RpAll K (hide O H) vs ds ∧ PostS K Tb W H0 O0 (k ds) D := by
  unfold ownAt at h
  split at h
  · rename_i ds e
    obtain ⟨v, h1, p, vs, rfl, m, m0, hp, z, r⟩ := st.slot i _ e
    exact ⟨ds, p, vs, e, h1, hp, z, r, h⟩
  · exact h.elim
theorem fs_app {i : Nat} {apos npos cpos : Pos} (ho : X.N[i]? = some x) (hv : Vis X.env.scope x) (hd : (x == ("__debug__" : Str)) = false) (hcd : (x == ("__classdict__" : Str)) = false) (ha : PE X e (tD X.K Tb W f))
    (hse : starEach [e] X.env = (false, eval e X.env) :: starEach [] X.env) (hbase : attributeBase (.Name x npos) "append" X.env (eval (.Name x npos) X.env) = eval (.Name x npos) X.env)
    (hfew : ((backTo cpos (starEach [e] X.env)).all (fun x => !x.1) && (backToKw cpos (keywordEach [] X.env)).all (fun x => x.1.isSome)
      && decide (([e] : List Expr).length + ([] : List Keyword).length + (if ([] : List Keyword).isEmpty then 0 else 1) < 30)) = true)
    (hline : (apos.endLine == cpos.line) = true) (hplain : (backTo cpos (starEach [] X.env)).any (·.1) = false)
    (hs : swapsWith (.Call (.Attribute (.Name x npos) "append" apos) [e] [] cpos) none pos.line X.env = pure false) :
    PS X (.Expr (.Call (.Attribute (.Name x npos) "append" apos) [e] [] cpos) pos) (tS X.K Tb W (gApp i f)) :=
  (ps_expr (pe_bm PySem.F.plainAttrs_list PySem.F.slot_list_append PySem.F.type_list_append mt_append (pe_var ho hv hd hcd) (pa_cons ha pa_nil hse) hbase hfew hline hse hplain) hs).by fun D σ H ⟨H0, O0, O, ρ, st, h⟩ => by
    obtain ⟨ds, p, vs, e1, e2, hp, z, r, h⟩ := own_at st h
    refine ⟨.ref p, e2, .inl ⟨rfl, vs, .of hp⟩, H0, O0, O, ρ, st, oR_post st h fun d v H1 ex rv k => ?_⟩
    split at k
    · rename_i hl
      refine ⟨p, vs, v, rfl, rfl, ex.keep p _ hp (fun _ q => by cases q), by rw [r.length]; exact hl, k O σ _ ((st.step ex).ownSet e1 e2 ?_ ?_)⟩
      · rw [List.length_append]; simp; exact hl
      · exact (r.mono (Sub.hide ex.keep)).append (.one rv)
    · exact k.elim
end
def startR (n : Nat) (ds : List PyData) : Rho := ds.map (fun d => some (.d d)) ++ List.replicate (n - ds.length) none
def endR : Out → R PyData
  | .nx _ => .ok .none
  | .rt d => .ok d
  | .exc e _ => .exc e
  | _ => .bad
def runD (n p : Nat) (g : Sn) : List PyData → R PyData := fun ds => if ds.length = p then endR (g (startR n ds)) else .bad
def spD (K : PySem.W.Frag) (Tb : List Addr) (m : List PyData → R PyData) : Sp := fun vs H Q E => ∃ O ds, Al O H ∧ (∀ P ∈ Tb, TabC H P) ∧ RpAll K (hide O H) vs ds ∧ Post K O (RlD K O) E H (m ds) Q
def WE (E : XK) : WX := fun c d _ H => E c d H
theorem lets_of {X : Cx} {W : WX} (tk : L2N.Takes X W) (σ : L2.St) : PassesAt (L2N.CX X.prog X.w) X σ (L2.WE W σ) := L2N.passAt tk σ
theorem lets0 {X : Cx} (σ : L2.St) : PassesAt (L2N.CX X.prog X.w) X σ (L2.WE W0 σ) := fun _ _ _ _ _ _ h => by
  obtain ⟨_, _, _, _, _, _, _, _, _, _, _, _, z⟩ := h
  exact z.elim
section
variable {P : Program} {w : World} {K : PySem.W.Frag} {mg : Str → Option Value} {base : Heap} {Tb : List Addr}
/-- a def, by its body -/
theorem fn_okD {x qual : Str} {st : Stmt} {f : Addr} {fd : FuncData} {N ps : List Str} {k : Nat} {g : Sn} (F : Fun K x qual st f fd) (S : FnScope N ps (defScope st))
    (hb : ∀ (cdv : Value) (A : Around) (outer : List Env) (s : Shared) (H : Hp) (E : XK), Room k (A.deeper (envOfC qual (defScope st) s.heap.objs.size f cdv)) →
      PSs (cxOf (L2N.CX P w) P w K mg base N qual (defScope st) f cdv A outer s H E) (defBody st) (tS K Tb (WE E) g)) :
    FnOk P w K mg base (L2N.CX P w) (k + 1) f fd ps (spD K Tb (runD N.length ps.length g)) := by
  obtain ⟨oc, od, kV, doc, pm, an, cdv, ct, osl, rfl, lk, hcd⟩ := F.ex
  refine fn_of lk hcd S (fun vs H Q E h => ?_) fun A outer s H vs Q E hr h => ⟨_, hb cdv A outer s H E hr, ?_⟩
  · obtain ⟨O, ds, al, tb, r, h⟩ := h
    unfold runD at h
    split at h
    · rename_i e
      rw [r.length]; exact e
    · exact h.elim
  · obtain ⟨O, ds, al, tb, r, h⟩ := h
    unfold runD at h
    split at h
    · rename_i e
      have st := St0.init (N.length - ds.length) al tb r
      refine ⟨H, O, O, startR N.length ds, ?_, ?_⟩
      · unfold L2.start startR
        rw [r.length]
        exact st
      · cases q : g (startR N.length ds) with
        | nx ρ => rw [q] at h; exact fun O' σ' H' st' => h .non H' st'.ext .non
        | rt d => rw [q] at h; exact fun v H' e' r' => h v H' e' r'
        | exc x ρ => rw [q] at h; exact fun O' σ' H' c d st' ex => h c d H' st'.ext (by
            obtain ⟨h1, h2⟩ := ex
            refine ⟨h1, ?_⟩
            rcases h2 with h2 | ⟨dd, fs, h3, h4, h5, h6⟩
            · exact .inl h2
            · exact .inr ⟨dd, fs, h3, h4, h5, h6.mono (Sub.less st'.sub)⟩)
        | bk ρ => rw [q] at h; exact h.elim
        | ct ρ => rw [q] at h; exact h.elim
        | bad => rw [q] at h; exact h.elim
    · exact h.elim
end
section
variable {X : Cx} {Tb : List Addr} {W : WX} {k : Nat} {f : Addr} {fd : FuncData} {ps : List Str} {m : List PyData → R PyData} {x : Str} {p pos : Pos} {e : Expr} {es : List Expr} {gl : DnL}
theorem fd_call (F : FnOk X.prog X.w X.K X.mg X.base (L2N.CX X.prog X.w) k f fd ps (spD X.K Tb m)) (hr : Room k X.A) (hg : Gl X x) (hm : X.mg x = some (.ref f)) (hk : PySem.W.keepIn X.K (.ref f) = true) (hb : Binds X.K fd ps []) (hx : ∀ σ, PassesAt (L2N.CX X.prog X.w) X σ (L2.WE W σ))
    (ha : PA X (e :: es) (tDs X.K Tb W gl)) (hdb : (x == ("__debug__" : Str)) = false := by decide) (he : starEach (e :: es) X.env = (false, eval e X.env) :: starEach es X.env := by rfl) (hpl : (backTo pos (starEach es X.env)).any (·.1) = false := by rfl) :
    PE X (.Call (.Name x p) (e :: es) [] pos) (tD X.K Tb W (dArg m gl)) := (pe_callS F hr hg hm hk hb hx ha hdb he hpl).by fun σ H Q ⟨H0, O0, O, ρ, st, h⟩ => ⟨H0, O0, O, ρ, st, by
  refine Post.then h fun ds vs H1 ex r k => ?_
  exact ⟨O, ds, (st.step ex).al, (st.step ex).tab, r, k⟩⟩
end
end PD
set_option Elab.async false
set_option linter.all false
set_option maxRecDepth 100000
set_option maxHeartbeats 1000000
namespace PySem.W
open PySem PySem.Calls PySem.SeqAt PyProof.Rows
section
variable {prog : Program} {w : World} {A : Around} {s : Shared}
/-- does a tuple have a first item -/
def hasFst : PyData → Bool
  | .tuple (_ :: _) => true
  | _ => false
theorem call_tuple_ltP {E : Value → Shared → Prop} {Q : Value → Shared → Prop} {l b : Addr} {items items2 : Array Value} {e r : Nat → Bool} (hl : s.heap.IsTuple l items) (hb : s.heap.IsTuple b items2)
    (he : ∀ j (h1 : j < items.size) (h2 : j < items2.size), EqAt A.in1 s items[j] items2[j] (e j)) (hr : ∀ j (h1 : j < items.size) (h2 : j < items2.size), e j = false → RcLt A.in1 s items[j] items2[j] (r j))
    (h : Q (.bool (firstLt e r (decide (items.size < items2.size)) (List.range (min items.size items2.size)))) s) : wpAny (model prog w) A (call (.builtin "tuple.__lt__") [.ref l, .ref b]) Q E s := by
  obtain ⟨⟨c1, d1, x1, l1⟩, ho, hc, n, hd⟩ := id hl
  obtain ⟨⟨c2, d2, x2, l2⟩, ho2, hc2, n2, hd2⟩ := id hb
  simp only at hc hd hc2 hd2
  subst hc hd hc2 hd2
  exact call_meets F.slot_tuple_lt ⟨_, ho, rfl⟩ F.entry_tuple_lt (F.args_tuple_lt_2 _ _) (tuple_ltAt l b items items2 n n2 d1 d2 l1 l2 e r) ⟨ho, ho2, he, hr, h⟩
theorem oneLt_tup {f : Bool} {xs ys : List PyData} {a b : Value} {as bs : List Addr} {Q : Bool → Shared → Prop} {E : Value → Shared → Prop} (ra : Reads s.heap a (.tuple xs) as) (rb : Reads s.heap b (.tuple ys) bs) (hal : alikeAll xs ys = true)
    (hu : A.units + min (PyData.tuple xs).depth (PyData.tuple ys).depth < cLine) (hq : Q (dataLt (.tuple xs) (.tuple ys)) s) : wpAny (model prog w) A (oneLt' f a b) Q E s := by
  cases f with
  | false => exact oneLt_alike (fun h => by cases h) ra rb (by simpa [alike] using hal) (fun h => by cases h) hu hq
  | true =>
    cases ra with
    | @tuple l o vs n _ as1 h1 h2 h3 h4 =>
      cases rb with
      | @tuple l' o' vs' n' _ bs1 k1 k2 k3 k4 =>
        have n1 : vs.size = xs.length := by simpa using SeqAt.ReadsAll.length _ _ _ h4
        have n2 : vs'.size = ys.length := by simpa using SeqAt.ReadsAll.length _ _ _ k4
        rw [dataLt_tuple, ← firstLt_toks xs ys hal, ← n1, ← n2] at hq
        rw [oneLt'_eq]
        simp only [if_true]
        refine wpAny_bind (wpAny_cRoomFor (SeqAt.room_here hu) ?_)
        refine wpAny_bind (wpAny_callSpecialIfBound?_slot (T := "tuple") ⟨_, h1, h2⟩ F.slot_tuple_lt (call_tuple_ltP (e := pairEq xs ys) (r := fun j => dataLt (xs.getD j .none) (ys.getD j .none)) ⟨_, h1, h2, _, h3⟩ ⟨_, k1, k2, _, k3⟩ (fun j j1 j2 => ?_) (fun j j1 j2 hj => ?_) ?_))
        · have := eqAt_alikeAll xs ys A.in1 s vs.toList vs'.toList _ _ h4 k4 hal (SeqAt.room_in hu) j (by simpa using j1) (by simpa using j2)
          simpa using this
        · have := rcLt_alikeAll xs ys A.in1 s vs.toList vs'.toList _ _ h4 k4 hal (SeqAt.room_in hu) j (by simpa using j1) (by simpa using j2) hj
          simpa using this
        · exact wpAny_truthy_bool hq
theorem mapM_firsts {E : Value → Shared → Prop} : ∀ {vs : List Value} {ds : List PyData} {Q : List (Option Value) → Shared → Prop}, EachIs (fun v d => ∃ as, Reads s.heap v d as) vs ds → (∀ d ∈ ds, ∃ xs, d = .tuple xs) →
    (∀ rs : List (Option Value), rs.map (·.isSome) = ds.map hasFst → Q rs s) → wpAny (model prog w) A (vs.mapM firstOfTuple') Q E s
  | _, _, Q, .nil, _, h => by rw [List.mapM_nil]; exact wpAny_pure (h [] rfl)
  | _, _, Q, .cons (b := d) ⟨as, r⟩ t, ht, h => by
    rw [List.mapM_cons]
    obtain ⟨xs, rfl⟩ := ht d (List.mem_cons_self ..)
    cases r with
    | @tuple a o vs n _ _ ho hc hd hr =>
      refine wpAny_bind ?_
      rw [kas_first_eq]
      refine wpAny_bind (wpAny_typeOf_ref ho ?_)
      rw [hc, if_neg (by decide)]
      refine wpAny_bind (wpAny_listItems (prog := prog) (w := w) ho hd (wpAny_pure ?_))
      refine (wpAny_bind (mapM_firsts t (fun d hd => ht d (List.mem_cons_of_mem _ hd)) fun rs e => wpAny_pure (h _ ?_)))
      rw [List.map_cons, List.map_cons, e]
      congr 1
      have hl := SeqAt.ReadsAll.length _ _ _ hr
      cases xs with
      | nil =>
        have : vs.size = 0 := by simpa using hl
        simp [hasFst, this]
      | cons x xs =>
        have : 0 < vs.size := by simp at hl; omega
        simp [hasFst, this]
/-- tuples, some of them empty -/
theorem SortsAt.tuples {vs : List Value} {ds : List PyData} (e : EachIs (fun v d => ∃ as, Reads s.heap v d as) vs ds) (hal : AllAlike ds) (ht : ∀ d ∈ ds, ∃ xs, d = .tuple xs) (hu : ∀ d, d ∈ ds → A.units + d.depth < cLine) : SortsAt prog w A s (dataKind s.heap ds) vs := by
  by_cases hne : ∀ d ∈ ds, hasFst d = true
  · refine SortsAt.data e hal (.inl fun d hd => ?_) hu
    obtain ⟨xs, rfl⟩ := ht d hd
    have q := hne _ hd
    cases xs with
    | nil => cases q
    | cons x r => exact ⟨x, r, rfl⟩
  · refine ⟨fun v hv => ?_, ?_⟩
    · obtain ⟨d, hd, as, r⟩ := e.left v hv
      exact ⟨_, dataKind_some hal hd r⟩
    · have lt : ∀ f : Bool, ∀ (E : Value → Shared → Prop) (x y : Value) (a b : (dataKind s.heap ds).α) {Q : Bool → Shared → Prop}, (dataKind s.heap ds).keyOf x = some a → (dataKind s.heap ds).keyOf y = some b → Q ((dataKind s.heap ds).blt a b) s → wpAny (model prog w) A (oneLt' f x y) Q E s := by
        intro f E x y a b Q ha hb hq
        obtain ⟨d, as, hd, ra, rfl⟩ := dataKind_inv ha
        obtain ⟨d', as', hd', rb, rfl⟩ := dataKind_inv hb
        have hdd := hal d hd d' hd'
        have hroom : A.units + min d.depth d'.depth < cLine := Nat.lt_of_le_of_lt (Nat.add_le_add_left (Nat.min_le_left _ _) _) (hu d hd)
        obtain ⟨xs, rfl⟩ := ht d hd
        obtain ⟨ys, rfl⟩ := ht d' hd'
        exact oneLt_tup ra rb (by simpa [alike] using hdd) hroom hq
      have some0 : ∀ rs : List (Option Value), rs.map (·.isSome) = ds.map hasFst → ¬ (rs.toArray.all (·.isSome)) = true := fun rs er q => by
        apply hne
        intro d hd
        have q' : ∀ r ∈ rs, r.isSome = true := by simpa using q
        have m : hasFst d ∈ ds.map hasFst := List.mem_map.mpr ⟨d, hd, rfl⟩
        rw [← er] at m
        obtain ⟨r, hr, er2⟩ := List.mem_map.mp m
        rw [← er2]
        exact q' r hr
      cases ds with
      | nil => exact absurd (fun d hd => absurd hd (by simp)) hne
      | cons d0 r0 =>
        cases h0 : hasFst d0 with
        | true =>
          refine ⟨general', fun E x y a b Q ha hb hq => lt false E x y a b ha hb hq, fun h2 E Q hq => ?_⟩
          rw [keyKind'_eq, List.mapM_toArray, map_eq_pure_bind]
          refine wpAny_bind (wpAny_bind (mapM_firsts e ht fun rs er => wpAny_pure ?_))
          rw [if_neg (some0 rs er), if_pos ?_]
          · exact wpAny_pure hq
          · cases rs with
            | nil => cases er
            | cons r rr =>
              have : r.isSome = true := (List.cons.inj er).1.trans h0
              simpa using this
        | false =>
          refine ⟨oneType', fun E x y a b Q ha hb hq => lt true E x y a b ha hb hq, fun h2 E Q hq => ?_⟩
          rw [keyKind'_eq, List.mapM_toArray, map_eq_pure_bind]
          refine wpAny_bind (wpAny_bind (mapM_firsts e ht fun rs er => wpAny_pure ?_))
          rw [if_neg (some0 rs er), if_neg ?_]
          · rw [oneTypeOnly'_eq, List.mapM_toArray, map_eq_pure_bind]
            have hT : ∀ v ∈ vs, Looks (model prog w) s.heap (typeOf v) (Value.type "tuple") := fun v hv => by
              obtain ⟨d, hd, as, r⟩ := e.left v hv
              obtain ⟨xs, rfl⟩ := ht d hd
              exact looks_reads r
            cases vs with
            | nil => exact absurd h2 (by simp)
            | cons v1 vr =>
              refine wpAny_bind (wpAny_bind (wpAny_bind (kas_mapM (r := Value.type "tuple") _ (fun v hv Q' hq => (hT v hv).here hq) (wpAny_pure ?_))))
              have hall : ((List.map (fun _ => Value.type "tuple") (v1 :: vr)).toArray.all fun x => x == Value.type "tuple") = true := by
                simp only [List.all_toArray, List.all_map, List.all_eq_true]
                intro _ _
                exact beq_self_eq_true _
              have hz : (List.map (fun _ => Value.type "tuple") (v1 :: vr)).toArray[0]? = some (Value.type "tuple") := by simp
              rw [hz]
              simp only [hall, if_true]
              exact wpAny_pure (wpAny_pure hq)
          · cases rs with
            | nil => simp
            | cons r rr =>
              have : r.isSome = false := (List.cons.inj er).1.trans h0
              simpa using this
end
end PySem.W
namespace PD
open PySem PySem.Spec PyProof.Rows L2
section
variable {prog : Program} {w : World} {A : Around} {E : Value → Shared → Prop} {s : Shared}
theorem gather_tup {l : Addr} {vs : List Value} {Q : List Value → Shared → Prop} (hl : IsTup s.heap l vs.toArray)
    (h : Q vs { s with heap := (s.heap.push (seqObj "list" #[] 0)).update s.heap.objs.size (Obj.mapSeq (· ++ vs.toArray)) }) (hsz : vs.length ≤ sizeLine) :
    wpAny (model prog w) A (collect (.ref l)) Q E s := by
  obtain ⟨o, ho, hc, n, hd⟩ := id hl
  unfold collect
  refine wpAny_bind (wpAny_runValue (codeAny_builtin entry_proto_collect' ?_))
  show wpAny _ _ (do again (.builtin "list.__iadd__" ⟨[← newList [], .ref l], []⟩)) _ _ s
  refine wpAny_bind (wpAny_newList (wpAny_pure ⟨Code.quiet_builtin _ (by decide +kernel), codeAny_builtin entry_list_iadd' ?_⟩))
  show wpAny _ _ (Builtin.List.listExtendWith (.ref s.heap.objs.size) (.ref l) (.ref s.heap.objs.size)) _ _ { s with heap := s.heap.push (seqObj "list" #[] 0) }
  unfold Builtin.List.listExtendWith
  have ho' : (s.heap.push (seqObj "list" #[] 0)).get? l = some o := Heap.get?_push_of_some _ ho
  refine wpAny_bind (wpAny_typeOf (T := "tuple") ⟨o, ho', hc⟩ ?_)
  have ht : (Value.type "tuple" == Value.type "tuple") = true := by rfl
  rw [if_pos (by rw [ht]; simp)]
  refine wpAny_bind (listItems_at ho' hd ?_)
  refine wpAny_bind (listItems_at (xs := #[]) (n := 0) (Heap.get?_push_size _ rfl) rfl ?_)
  rw [if_neg (by simp)]
  refine wpAny_bind (listUpdate_at (xs := #[]) (n := 0) (Heap.get?_push_size _ rfl) rfl ?_ (Nat.zero_le _) (by show (#[] ++ vs.toArray).size ≤ sizeLine + 1; simp only [Array.size_append, List.size_toArray, List.length_nil]; omega))
  refine wpAny_pure ?_
  show wpAny (model prog w) A (do
      let o ← load s.heap.objs.size
      match o.data with
      | .seq xs _ => pure xs.toList
      | _ => unsupported "internal:collect") Q E { s with heap := (s.heap.push (seqObj "list" #[] 0)).update s.heap.objs.size (Obj.mapSeq (· ++ vs.toArray)) }
  refine wpAny_bind (wpAny_load (get?_update_seq (Heap.get?_push_size _ rfl) _) ?_)
  show wpAny _ _ (pure ((#[] : Array Value) ++ vs.toArray).toList) Q E _
  rw [show ((#[] : Array Value) ++ vs.toArray).toList = vs by simp]
  exact wpAny_pure h
theorem sorted_tup {κ : PyProof.Rows.KeyKind} {l : Addr} {vs : List Value} {Q : Value → Shared → Prop} (hl : IsTup s.heap l vs.toArray) (S : PySem.W.SortsAt prog w A.in1.in1 { s with heap := PySem.W.sortingHeap (PySem.W.copyHeap s.heap vs) (s.heap.objs.size + 1) vs } κ vs) (hL : vs.length ≤ sizeLine)
    (h : Q (.ref (s.heap.objs.size + 1)) { s with heap := sortedAll s.heap vs (PySem.W.sortVals κ false vs vs).toArray }) : wpAny (model prog w) A (call (.builtin "sorted") [.ref l]) Q E s := by
  refine call_function_entry_kw kind_sorted plain_sorted entry_sorted (args_sorted1 _) ?_
  unfold Builtin.«sorted»
  refine wpAny_bind (m := checkCount "sorted" 1 1 _) (wpAny_pure ?_)
  refine wpAny_bind (gather_tup hl ?_ hL)
  refine wpAny_bind (wpAny_newList ?_ hL)
  have hsz : ((s.heap.push (seqObj "list" #[] 0)).update s.heap.objs.size (Obj.mapSeq (· ++ vs.toArray))).objs.size = s.heap.objs.size + 1 := by
    rw [Heap.size_update]; exact Heap.size_push ..
  show wpAny _ _ _ _ _ { s with heap := PySem.W.copyHeap s.heap vs }
  rw [hsz]
  refine wpAny_bind (wpAny_holding (wpAny_call_entry_kw slot_list_sort ⟨_, PySem.W.copyHeap_at s.heap vs, rfl⟩ entry_list_sort ?body (args_list_sort _)))
  case body =>
    show wpAny (model prog w) A.in1.in1 (Builtin.«list.sort» ⟨[.ref (s.heap.objs.size + 1)], []⟩) _ _ _
    refine PySem.W.list_sort_vals (s := { s with heap := PySem.W.copyHeap s.heap vs }) (PySem.W.copyHeap_at s.heap vs) S hL ?_
    exact ⟨_, rfl, wpAny_pure ⟨_, rfl, h⟩⟩
end
def allTup (ds : List PyData) : Bool := ds.all fun d => match d with | .tuple _ => true | _ => false
def allNot (ds : List PyData) : Bool := ds.all fun d => match d with | .tuple _ => false | .none => false | _ => true
def allAlike (ds : List PyData) : Bool := ds.all fun d => ds.all fun e => PySem.W.alike d e
def okSort (ds : List PyData) : Bool := allAlike ds && (allTup ds || allNot ds) && ds.all fun d => decide (d.depth ≤ 60)
def sortD (ds : List PyData) : List PyData := ds.mergeSort (PySem.W.dataLe false id)
def bSorted : List PyData → R PyData
  | [.list xs] => if okSort xs = true then .ok (.list (sortD xs)) else .bad
  | [.tuple xs] => if okSort xs = true then .ok (.list (sortD xs)) else .bad
  | _ => .bad
mutual
theorem nod_of_alike : ∀ {d : PyData}, PySem.W.alike d d = true → nod d = true
  | .none, _ => rfl
  | .bool _, _ => rfl
  | .int _, _ => rfl
  | .str _, _ => rfl
  | .list xs, h => by
    rw [PySem.W.alike] at h
    exact nodAll_of_alike (xs := xs) h
  | .tuple xs, h => by
    rw [PySem.W.alike] at h
    exact nodAll_of_alike (xs := xs) h
  | .dict _, h => by simp [PySem.W.alike] at h
theorem nodAll_of_alike : ∀ {xs : List PyData}, PySem.W.alikeAll xs xs = true → nodAll xs = true
  | [], _ => rfl
  | x :: xs, h => by
    rw [PySem.W.alikeAll, Bool.and_eq_true] at h
    show (nod x && nodAll xs) = true
    rw [Bool.and_eq_true]
    exact ⟨nod_of_alike h.1, nodAll_of_alike h.2⟩
end
section
variable {X : Cx} {K : PySem.W.Frag}
theorem rpAll_reads {pins : List (Addr × Obj)} {σ : L2.St} {H : Hp} {s : Shared} {G : Hp} (I : Inv X pins σ H s) (sub : Sub G H) : ∀ {xs : List V} {ds : List PyData} {us : List Value}, RpAll X.K G xs ds → Vals xs us → (∀ d ∈ ds, nod d = true) → PySem.W.EachIs (fun v d => ∃ as, Reads s.heap v d as) us ds
  | _, _, _, .nil, .nil, _ => .nil
  | _, _, _, .cons r t, .cons q u, h => .cons (Dp.reads I _ _ _ ((r.mono sub).dp (h _ List.mem_cons_self)) q) (rpAll_reads I sub t u fun d hd => h d (List.mem_cons_of_mem _ hd))
theorem rpAll_each {G : Hp} : ∀ {xs : List V} {ds : List PyData} {us : List Value}, RpAll K G xs ds → Vals xs us → PySem.W.EachIs (fun u d => ∃ v, RelV v u ∧ Rp K G v d) us ds
  | _, _, _, .nil, .nil => .nil
  | _, _, _, .cons r t, .cons q u => .cons ⟨_, q, r⟩ (rpAll_each t u)
theorem each_rpAll {G : Hp} : ∀ {us : List Value} {ds : List PyData}, PySem.W.EachIs (fun u d => ∃ v, RelV v u ∧ Rp K G v d) us ds → ∃ xs, Vals xs us ∧ RpAll K G xs ds
  | _, _, .nil => ⟨[], .nil, .nil⟩
  | _, _, .cons ⟨v, q, r⟩ t => by
    obtain ⟨xs, h1, h2⟩ := each_rpAll t
    exact ⟨v :: xs, .cons q h1, .cons r h2⟩
def rSortD (K : PySem.W.Frag) : List V → Hp → VK → Prop := fun vs H Q => ∃ (G : Hp) (a : Addr) (xs : List V) (ds : List PyData), vs = [V.ref a] ∧ Sub G H ∧ (SqL K H a xs ∨ SqT K H a xs) ∧ RpAll K G xs ds ∧ okSort ds = true ∧
  ∀ p ys, H p = none → ys.length = xs.length → RpAll K G ys (sortD ds) → Q (.ref p) (upd H p (.lst ys))
theorem okSort_of {ds : List PyData} (h : okSort ds = true) : PySem.W.AllAlike ds ∧ ((∀ d ∈ ds, ∃ xs, d = .tuple xs) ∨ ∀ d ∈ ds, d ≠ .none ∧ ∀ xs, d ≠ .tuple xs) ∧ ∀ d ∈ ds, d.depth ≤ 60 := by
  unfold okSort at h
  rw [Bool.and_eq_true, Bool.and_eq_true, Bool.or_eq_true] at h
  obtain ⟨⟨h1, h2⟩, h3⟩ := h
  refine ⟨fun d hd e he => ?_, ?_, fun d hd => ?_⟩
  · unfold allAlike at h1
    rw [List.all_eq_true] at h1
    have := h1 d hd
    rw [List.all_eq_true] at this
    exact this e he
  · rcases h2 with h2 | h2
    · refine .inl fun d hd => ?_
      unfold allTup at h2
      rw [List.all_eq_true] at h2
      have := h2 d hd
      cases d <;> first | exact ⟨_, rfl⟩ | cases this
    · refine .inr fun d hd => ?_
      unfold allNot at h2
      rw [List.all_eq_true] at h2
      have := h2 d hd
      cases d <;> first | exact absurd this Bool.false_ne_true | exact ⟨by simp, by simp⟩
  · rw [List.all_eq_true] at h3
    exact of_decide_eq_true (h3 d hd)
theorem cr_sortD (hu : X.A.units + 64 < cLine) : CallR X (.builtin "sorted") (rSortD X.K) := by
  intro pins s σ H vs us Q I r h
  obtain ⟨G, a, xs, ds, rfl, sub, hs, ra, ok, q⟩ := h
  obtain ⟨al, kind, dep⟩ := okSort_of ok
  obtain ⟨its, rv, hl, hz⟩ : ∃ its : List Value, Vals xs its ∧ (s.heap.IsList a its.toArray ∨ IsTup s.heap a its.toArray) ∧ xs.length ≤ sizeLine := by
    rcases hs with hs | hs
    · obtain ⟨its, rv, hl, hz⟩ := I.list hs
      exact ⟨its, rv, .inl hl.isList, hz⟩
    · obtain ⟨its, rv, hl, hz⟩ := I.tuple hs
      exact ⟨its, rv, .inr hl, hz⟩
  rw [Vals.ref1 r]
  have er := rpAll_reads I sub ra rv fun d hd => nod_of_alike (al d hd d hd)
  have ev := rpAll_each ra rv
  have er' : PySem.W.EachIs (fun v d => ∃ as, Reads (PySem.W.sortingHeap (PySem.W.copyHeap s.heap its) (s.heap.objs.size + 1) its) v d as) its ds := er.mono fun _ _ ⟨as, r⟩ => ⟨as, PyProof.Rows.Reads.keeps (fun _ _ => PySem.W.sorting_copy_old) r⟩
  have hlen := rv.length
  have hu2 : ∀ d, d ∈ ds → X.A.in1.in1.units + d.depth < cLine := fun d hd => by
    have h1 := dep d hd
    show X.A.units + 1 + 1 + d.depth < cLine
    omega
  have S : PySem.W.SortsAt X.prog X.w X.A.in1.in1 { s with heap := PySem.W.sortingHeap (PySem.W.copyHeap s.heap its) (s.heap.objs.size + 1) its } (PySem.W.dataKind (PySem.W.sortingHeap (PySem.W.copyHeap s.heap its) (s.heap.objs.size + 1) its) ds) its := by
    rcases kind with k | k
    · exact PySem.W.SortsAt.tuples (s := { s with heap := PySem.W.sortingHeap (PySem.W.copyHeap s.heap its) (s.heap.objs.size + 1) its }) er' al k hu2
    · exact PySem.W.SortsAt.data (s := { s with heap := PySem.W.sortingHeap (PySem.W.copyHeap s.heap its) (s.heap.objs.size + 1) its }) er' al (.inr k) hu2
  refine (hl.elim (fun hl h => PySem.W.sorted_vals hl S (by rw [← hlen]; exact hz) h) (fun hl h => sorted_tup hl S (by rw [← hlen]; exact hz) h) : (_ → wpAny _ _ _ _ _ _)) ?_
  have eo := PySem.W.sortVals_data (h' := PySem.W.sortingHeap (PySem.W.copyHeap s.heap its) (s.heap.objs.size + 1) its) (enc := id) false ev (er'.mono fun _ _ h => h) (by rw [List.map_id]; exact al)
  rw [List.map_id] at eo
  obtain ⟨ys, hy1, hy2⟩ := each_rpAll eo
  obtain ⟨ep, he⟩ := PyProof.Rows.sortedAll_at s.heap its (PySem.W.sortVals (PySem.W.dataKind (PySem.W.sortingHeap (PySem.W.copyHeap s.heap its) (s.heap.objs.size + 1) its) ds) false its its).toArray
  have hyl : ys.length = xs.length := by
    rw [hy2.length, ra.length]
    exact List.length_mergeSort ds
  exact ⟨.ref _, upd H (s.heap.objs.size + 1) (.lst ys), I.laid (t' := s.toks) (fun _ _ => PyProof.Rows.sortedAll_old) (Nat.le_succ _) ⟨by rw [hyl]; exact hz, _, ep, hy1, he⟩, rfl, q _ ys (I.hok.fresh (Nat.le_succ _)) hyl hy2⟩
theorem ok_sorted : OkL K (rSortD K) bSorted := by
  intro O H Wx vs ds Q al r h
  unfold bSorted at h
  split at h
  · split at h
    · rename_i xs ok
      cases r with
      | cons r1 r2 =>
        cases r2
        cases r1 with
        | lst h1 z1 a1 =>
          refine ⟨hide O H, _, _, _, rfl, Sub.unhide, .inl (Sub.unhide.sqL h1), a1, ok, fun p ys hp hy ry => Post.newLst al h ?_ ry p hp⟩
          have : (sortD xs).length = xs.length := List.length_mergeSort xs
          rw [this]; exact z1
    · exact h.elim
  · split at h
    · rename_i xs ok
      cases r with
      | cons r1 r2 =>
        cases r2
        cases r1 with
        | tup h1 z1 a1 =>
          refine ⟨hide O H, _, _, _, rfl, Sub.unhide, .inr (Sub.unhide.sqT h1), a1, ok, fun p ys hp hy ry => Post.newLst al h ?_ ry p hp⟩
          have : (sortD xs).length = xs.length := List.length_mergeSort xs
          rw [this]; exact z1
    · exact h.elim
  · exact h.elim
end
end PD
set_option Elab.async false
set_option linter.all false
set_option maxRecDepth 100000
set_option maxHeartbeats 1000000
namespace PD
open PySem PySem.Spec PyProof.Rows L2 GenW
/-- the same heap -/
theorem inv_gens {X : Cx} {pins : List (Addr × Obj)} {σ : L2.St} {H : Hp} {s s' : Shared} (I : Inv X pins σ H s) (hp : s'.heap = s.heap) (os : s'.os = s.os) (b : AllBare s'.gens) : Inv X pins σ H s' := by
  obtain ⟨h', g', d', t', o'⟩ := s'
  cases hp; cases os
  exact { I with bare := b }
def GI (XG : Cx) (fp : List Addr) (tn : Nat → Heap → Prop) (σw : L2.St) (W : Nat → Nat → Hp → Prop) (i m : Nat) (s : Shared) : Prop := ∃ H', Inv XG [] σw H' s ∧ tn i s.heap ∧ (∀ b ∈ fp, H' b = none) ∧ W i m H'
def FB (XG : Cx) (Q : VK) (b : Bool) (s : Shared) : Prop := ∃ pins' σ' H', Inv XG pins' σ' H' s ∧ Q (.bl b) H'
section
variable {X XG : Cx} {A : Around} {fp : List Addr} {tn : Nat → Heap → Prop} {σw : L2.St} {W : Nat → Nat → Hp → Prop} {Q : VK} {stop : Bool} {Rr : Result → Shared → Prop} {P : Program} {w : World}
theorem FB.gens {b : Bool} {s s' : Shared} (h : FB XG Q b s) (e : s'.heap = s.heap) (os : s'.os = s.os) (bb : AllBare s'.gens) : FB XG Q b s' := by
  obtain ⟨p, σ, H, I, q⟩ := h
  exact ⟨p, σ, H, inv_gens I e os bb, q⟩
theorem FB.bare {b : Bool} {s : Shared} (h : FB XG Q b s) : AllBare s.gens := by
  obtain ⟨p, σ, H, I, q⟩ := h
  exact I.bare
theorem FB.kept {b : Bool} {s : Shared} {h' : Heap} (h : FB XG Q b s) (k : ∀ b o, s.heap.get? b = some o → h'.get? b = some o) : FB XG Q b { s with heap := h' } := by
  obtain ⟨p, σ, H, I, q⟩ := h
  exact ⟨p, σ, H, I.un (t' := s.toks) (Un.kept k) (I.hok.kept k), q⟩
theorem GI.bare {i m : Nat} {s : Shared} (h : GI XG fp tn σw W i m s) : AllBare s.gens := by
  obtain ⟨H, I, q⟩ := h
  exact I.bare
theorem GI.gens {i m : Nat} {s s' : Shared} (h : GI XG fp tn σw W i m s) (e : s'.heap = s.heap) (os : s'.os = s.os) (bb : AllBare s'.gens) : GI XG fp tn σw W i m s' := by
  obtain ⟨H, I, t, n, q⟩ := h
  exact ⟨H, inv_gens I e os bb, by rw [e]; exact t, n, q⟩
end
end PD
set_option Elab.async false
set_option linter.all false
set_option maxRecDepth 100000
set_option maxHeartbeats 1000000
namespace PD
open PySem PySem.Spec PyProof.Rows L2
def anyGo (stop : Bool) (t : Tg) (ft : DnB) (fe : Dn) (ρ : Rho) : List PyData → R Bool
  | [] => .ok (!stop)
  | d :: ds => match t.set d ρ with
    | some ρ1 => nx (ft ρ1) fun b => if b = true then nx (fe ρ1) fun y => match y with
        | .bool c => if c = stop then .ok stop else anyGo stop t ft fe ρ ds
        | _ => .bad
      else anyGo stop t ft fe ρ ds
    | none => .bad
def dAnyG (stop : Bool) (fi : DnL) (t : Tg) (ft : DnB) (fe : Dn) (vs : List Nat) : Dn := fun ρ => fi ρ >>= fun ds => nx (anyGo stop t ft fe (wipeR ρ vs) ds) fun b => .ok (.bool b)
end PD
set_option Elab.async false
set_option linter.all false
set_option maxRecDepth 100000
set_option maxHeartbeats 1000000
namespace PD
open PySem PySem.Spec PyProof.Rows L2
def gPopAt (i : Nat) (f : Dn) : Sn := fun ρ => ownAt ρ i fun ds => oR (f ρ) ρ fun d => match d with
  | .int k => match seqIndex? k ds.length with
    | some j => if -(2 ^ 63) ≤ k ∧ k < 2 ^ 63 ∧ j < ds.length then .nx (ρ.set i (some (.own (ds.eraseIdx j)))) else .bad
    | none => .bad
  | _ => .bad
theorem RpAll.dropLast {K : PySem.W.Frag} {G : Hp} {vs : List V} {ds : List PyData} (h : RpAll K G vs ds) : RpAll K G vs.dropLast ds.dropLast := by
  rw [List.dropLast_eq_take, List.dropLast_eq_take, h.length]
  exact h.take _
def lstRg (lo hi : Int) : List PyData := (List.range (hi - lo).toNat).map fun i => .int (lo + (i : Nat))
def rgOk (a b : Int) : Bool := decide (-(2 ^ 62) ≤ a ∧ a < 2 ^ 62 ∧ -(2 ^ 62) ≤ b ∧ b < 2 ^ 62 ∧ (b - a).toNat ≤ 2 ^ 24)
def bLstR1 : PyData → R PyData
  | .int n => if rgOk 0 n = true then .ok (.list (lstRg 0 n)) else .bad
  | _ => .bad
theorem rgOk_ok {a b : Int} (h : rgOk a b = true) : RgOk a b := by
  have h := of_decide_eq_true (p := -(2 ^ 62) ≤ a ∧ a < 2 ^ 62 ∧ -(2 ^ 62) ≤ b ∧ b < 2 ^ 62 ∧ (b - a).toNat ≤ 2 ^ 24) h
  exact h
theorem rp_rg {K : PySem.W.Frag} {G : Hp} (a b : Int) : RpAll K G (rgV a b) (lstRg a b) := by
  unfold rgV lstRg
  induction List.range (b - a).toNat with
  | nil => exact .nil
  | cons i r ih => exact .cons (.int _) ih
theorem lstRg_len (a b : Int) (h : rgOk a b = true) : (lstRg a b).length ≤ sizeLine := by
  unfold lstRg
  rw [List.length_map, List.length_range, sizeLine_eq]
  have := of_decide_eq_true h
  omega
end PD
set_option Elab.async false
set_option linter.all false
set_option maxRecDepth 100000
set_option maxHeartbeats 1000000
namespace PD
open PySem PySem.Spec PyProof.Rows L2
/-- the module hides none of the names that Python gives -/
structure Bi (mg : Str → Option Value) : Prop where
  len : mg "len" = none
  int : mg "int" = none
  bool : mg "bool" = none
  abs : mg "abs" = none
  tuple : mg "tuple" = none
  list : mg "list" = none
  sum : mg "sum" = none
  max : mg "max" = none
  min : mg "min" = none
  any : mg "any" = none
  all : mg "all" = none
  range : mg "range" = none
  isinstance : mg "isinstance" = none
  sorted : mg "sorted" = none
  enumerate : mg "enumerate" = none
  zip : mg "zip" = none
  set : mg "set" = none
section
variable {X : Cx} {Tb : List Addr} {W : WX} {a b e : Expr} {es : List Expr} {f g : Dn} {gl : DnL} {pos p : Pos} {k : Nat}
theorem boot_max : bootBuiltins "max" = some (.builtin "max") := by decide +kernel
theorem boot_min : bootBuiltins "min" = some (.builtin "min") := by decide +kernel
theorem boot_sum : bootBuiltins "sum" = some (.builtin "sum") := by decide +kernel
theorem boot_abs : bootBuiltins "abs" = some (.builtin "abs") := by decide +kernel
theorem boot_sorted : bootBuiltins "sorted" = some (.builtin "sorted") := by decide +kernel
theorem boot_all : bootBuiltins "all" = some (.builtin "all") := by decide +kernel
theorem _root_.L2.Room.u64 {k : Nat} {A : Around} (r : Room k A) : A.units + 64 < cLine := by have := r.un; omega
theorem _root_.L2.Room.u65 {k : Nat} {A : Around} (r : Room k A) : A.units + 65 < cLine := by have := r.un; omega
theorem e_eq (hr : Room k X.A) (ha : PE X a (tD X.K Tb W f)) (hb : PE X b (tD X.K Tb W g)) (hm : behindInMarks .Eq b = false := by rfl) : PE X (.Compare a [.Eq] [b] pos) (tD X.K Tb W (dTwo oEq f g)) := fd_cmp (op_eqD hr.u64) ok_eq ha hb hm
theorem e_lt (ha : PE X a (tD X.K Tb W f)) (hb : PE X b (tD X.K Tb W g)) (hm : behindInMarks .Lt b = false := by rfl) : PE X (.Compare a [.Lt] [b] pos) (tD X.K Tb W (dTwo oLt f g)) := fd_cmp op_lt ok_lt ha hb hm
theorem e_le (ha : PE X a (tD X.K Tb W f)) (hb : PE X b (tD X.K Tb W g)) (hm : behindInMarks .LtE b = false := by rfl) : PE X (.Compare a [.LtE] [b] pos) (tD X.K Tb W (dTwo oLe f g)) := fd_cmp op_le ok_le ha hb hm
theorem e_ge (ha : PE X a (tD X.K Tb W f)) (hb : PE X b (tD X.K Tb W g)) (hm : behindInMarks .GtE b = false := by rfl) : PE X (.Compare a [.GtE] [b] pos) (tD X.K Tb W (dTwo oGe f g)) := fd_cmp op_ge ok_ge ha hb hm
theorem t_eq (hr : Room k X.A) (ha : PE X a (tD X.K Tb W f)) (hb : PE X b (tD X.K Tb W g)) (hm : behindInMarks .Eq b = false := by rfl) : PT X (.Compare a [.Eq] [b] pos) (tDT X.K Tb W (dAsB (dTwo oEq f g))) := ft_cmp (op_eqD hr.u64) ok_eq ha hb hm
theorem t_ne (hr : Room k X.A) (ha : PE X a (tD X.K Tb W f)) (hb : PE X b (tD X.K Tb W g)) (hm : behindInMarks .NotEq b = false := by rfl) : PT X (.Compare a [.NotEq] [b] pos) (tDT X.K Tb W (dAsB (dTwo oNe f g))) := ft_cmp (op_neD hr.u64) ok_ne ha hb hm
theorem t_lt (ha : PE X a (tD X.K Tb W f)) (hb : PE X b (tD X.K Tb W g)) (hm : behindInMarks .Lt b = false := by rfl) : PT X (.Compare a [.Lt] [b] pos) (tDT X.K Tb W (dAsB (dTwo oLt f g))) := ft_cmp op_lt ok_lt ha hb hm
theorem t_le (ha : PE X a (tD X.K Tb W f)) (hb : PE X b (tD X.K Tb W g)) (hm : behindInMarks .LtE b = false := by rfl) : PT X (.Compare a [.LtE] [b] pos) (tDT X.K Tb W (dAsB (dTwo oLe f g))) := ft_cmp op_le ok_le ha hb hm
theorem t_gt (ha : PE X a (tD X.K Tb W f)) (hb : PE X b (tD X.K Tb W g)) (hm : behindInMarks .Gt b = false := by rfl) : PT X (.Compare a [.Gt] [b] pos) (tDT X.K Tb W (dAsB (dTwo oGt f g))) := ft_cmp op_gt ok_gt ha hb hm
theorem t_ge (ha : PE X a (tD X.K Tb W f)) (hb : PE X b (tD X.K Tb W g)) (hm : behindInMarks .GtE b = false := by rfl) : PT X (.Compare a [.GtE] [b] pos) (tDT X.K Tb W (dAsB (dTwo oGe f g))) := ft_cmp op_ge ok_ge ha hb hm
theorem t_in (hr : Room k X.A) (ha : PE X a (tD X.K Tb W f)) (hb : PE X b (tD X.K Tb W g)) (hm : behindInMarks .In b = false := by rfl) : PT X (.Compare a [.In] [b] pos) (tDT X.K Tb W (dAsB (dTwo oIn f g))) := ft_cmp (PD.op_inS hr.u65) ok_in ha hb hm
theorem t_notin (hr : Room k X.A) (ha : PE X a (tD X.K Tb W f)) (hb : PE X b (tD X.K Tb W g)) (hm : behindInMarks .NotIn b = false := by rfl) : PT X (.Compare a [.NotIn] [b] pos) (tDT X.K Tb W (dAsB (dTwo oNotIn f g))) := ft_cmp (PD.op_notInS hr.u65) ok_notIn ha hb hm
theorem e_ix (ha : PE X a (tD X.K Tb W f)) (hb : PE X b (tD X.K Tb W g)) (hs : PlainIx b := by intro _ _; rfl) : PE X (.Subscript a b pos) (tD X.K Tb W (dTwo oIx f g)) := fd_ix ha hb hs
theorem e_len (B : Bi X.mg) (ha : PA X (e :: es) (tDs X.K Tb W gl)) (hg : Gl X "len" := by rfl) (he : starEach (e :: es) X.env = (false, eval e X.env) :: starEach es X.env := by rfl) (hpl : (backTo pos (starEach es X.env)).any (·.1) = false := by rfl) :
    PE X (.Call (.Name "len" p) (e :: es) [] pos) (tD X.K Tb W (dArg bLen gl)) := fd_callB call_len_seq ok_len hg B.len PySem.boot_len ha (by decide) (by decide) he hpl
theorem e_int (B : Bi X.mg) (ha : PA X (e :: es) (tDs X.K Tb W gl)) (hg : Gl X "int" := by rfl) (he : starEach (e :: es) X.env = (false, eval e X.env) :: starEach es X.env := by rfl) (hpl : (backTo pos (starEach es X.env)).any (·.1) = false := by rfl) :
    PE X (.Call (.Name "int" p) (e :: es) [] pos) (tD X.K Tb W (dArg bInt gl)) := fd_callTy call_int1 ok_int hg B.int boot_int ha (by decide) (by decide) he hpl
theorem e_abs (B : Bi X.mg) (ha : PA X (e :: es) (tDs X.K Tb W gl)) (hg : Gl X "abs" := by rfl) (he : starEach (e :: es) X.env = (false, eval e X.env) :: starEach es X.env := by rfl) (hpl : (backTo pos (starEach es X.env)).any (·.1) = false := by rfl) :
    PE X (.Call (.Name "abs" p) (e :: es) [] pos) (tD X.K Tb W (dArg bAbs gl)) := fd_callB call_abs ok_abs hg B.abs boot_abs ha (by decide) (by decide) he hpl
theorem e_tuple (B : Bi X.mg) (ha : PA X (e :: es) (tDs X.K Tb W gl)) (hg : Gl X "tuple" := by rfl) (he : starEach (e :: es) X.env = (false, eval e X.env) :: starEach es X.env := by rfl) (hpl : (backTo pos (starEach es X.env)).any (·.1) = false := by rfl) :
    PE X (.Call (.Name "tuple" p) (e :: es) [] pos) (tD X.K Tb W (dArg bTuple gl)) := fd_callTy call_tuple_of ok_tuple hg B.tuple boot_tuple ha (by decide) (by decide) he hpl
theorem e_sum (B : Bi X.mg) (ha : PA X (e :: es) (tDs X.K Tb W gl)) (hc : X.calm = true := by rfl) (hg : Gl X "sum" := by rfl) (he : starEach (e :: es) X.env = (false, eval e X.env) :: starEach es X.env := by rfl) (hpl : (backTo pos (starEach es X.env)).any (·.1) = false := by rfl) :
    PE X (.Call (.Name "sum" p) (e :: es) [] pos) (tD X.K Tb W (dArg bSum gl)) := fd_callB (cr_sum hc) ok_sum hg B.sum boot_sum ha (by decide) (by decide) he hpl
theorem e_max (B : Bi X.mg) (ha : PA X (e :: es) (tDs X.K Tb W gl)) (hc : X.calm = true := by rfl) (hg : Gl X "max" := by rfl) (he : starEach (e :: es) X.env = (false, eval e X.env) :: starEach es X.env := by rfl) (hpl : (backTo pos (starEach es X.env)).any (·.1) = false := by rfl) :
    PE X (.Call (.Name "max" p) (e :: es) [] pos) (tD X.K Tb W (dArg bMax gl)) := fd_callB (cr_max hc) ok_max hg B.max boot_max ha (by decide) (by decide) he hpl
theorem e_min2 (B : Bi X.mg) (ha : PA X (e :: es) (tDs X.K Tb W gl)) (hc : X.calm = true := by rfl) (hg : Gl X "min" := by rfl) (he : starEach (e :: es) X.env = (false, eval e X.env) :: starEach es X.env := by rfl) (hpl : (backTo pos (starEach es X.env)).any (·.1) = false := by rfl) :
    PE X (.Call (.Name "min" p) (e :: es) [] pos) (tD X.K Tb W (dArg bMin2 gl)) := fd_callB (call_min2 hc) ok_min2 hg B.min boot_min ha (by decide) (by decide) he hpl
theorem e_all (B : Bi X.mg) (ha : PA X (e :: es) (tDs X.K Tb W gl)) (hc : X.calm = true := by rfl) (hg : Gl X "all" := by rfl) (he : starEach (e :: es) X.env = (false, eval e X.env) :: starEach es X.env := by rfl) (hpl : (backTo pos (starEach es X.env)).any (·.1) = false := by rfl) :
    PE X (.Call (.Name "all" p) (e :: es) [] pos) (tD X.K Tb W (dArg bAll gl)) := fd_callB (cr_all hc) ok_all hg B.all boot_all ha (by decide) (by decide) he hpl
theorem e_sorted (B : Bi X.mg) (hr : Room k X.A) (ha : PA X (e :: es) (tDs X.K Tb W gl)) (hg : Gl X "sorted" := by rfl) (he : starEach (e :: es) X.env = (false, eval e X.env) :: starEach es X.env := by rfl) (hpl : (backTo pos (starEach es X.env)).any (·.1) = false := by rfl) :
    PE X (.Call (.Name "sorted" p) (e :: es) [] pos) (tD X.K Tb W (dArg bSorted gl)) := fd_callB (cr_sortD hr.u64) ok_sorted hg B.sorted boot_sorted ha (by decide) (by decide) he hpl
theorem e_isInt (B : Bi X.mg) {py : Pos} (ha : PE X a (tD X.K Tb W f)) (hg : Gl X "isinstance" := by rfl) (hgy : Gl X "int" := by rfl) (he : starEach [a, .Name "int" py] X.env = (false, eval a X.env) :: starEach [.Name "int" py] X.env := by rfl) (he2 : starEach [.Name "int" py] X.env = (false, eval (.Name "int" py) X.env) :: starEach [] X.env := by rfl) (hpl : (backTo pos (starEach [.Name "int" py] X.env)).any (·.1) = false := by rfl) :
    PE X (.Call (.Name "isinstance" p) [a, .Name "int" py] [] pos) (tD X.K Tb W (dOne (oIsi "int") f)) := fd_isi ha hg B.isinstance hgy B.int boot_int (by decide) (by decide) he he2 hpl
theorem e_isBool (B : Bi X.mg) {py : Pos} (ha : PE X a (tD X.K Tb W f)) (hg : Gl X "isinstance" := by rfl) (hgy : Gl X "bool" := by rfl) (he : starEach [a, .Name "bool" py] X.env = (false, eval a X.env) :: starEach [.Name "bool" py] X.env := by rfl) (he2 : starEach [.Name "bool" py] X.env = (false, eval (.Name "bool" py) X.env) :: starEach [] X.env := by rfl) (hpl : (backTo pos (starEach [.Name "bool" py] X.env)).any (·.1) = false := by rfl) :
    PE X (.Call (.Name "isinstance" p) [a, .Name "bool" py] [] pos) (tD X.K Tb W (dOne (oIsi "bool") f)) := fd_isi ha hg B.isinstance hgy B.bool boot_bool (by decide) (by decide) he he2 hpl
theorem e_isTuple (B : Bi X.mg) {py : Pos} (ha : PE X a (tD X.K Tb W f)) (hg : Gl X "isinstance" := by rfl) (hgy : Gl X "tuple" := by rfl) (he : starEach [a, .Name "tuple" py] X.env = (false, eval a X.env) :: starEach [.Name "tuple" py] X.env := by rfl) (he2 : starEach [.Name "tuple" py] X.env = (false, eval (.Name "tuple" py) X.env) :: starEach [] X.env := by rfl) (hpl : (backTo pos (starEach [.Name "tuple" py] X.env)).any (·.1) = false := by rfl) :
    PE X (.Call (.Name "isinstance" p) [a, .Name "tuple" py] [] pos) (tD X.K Tb W (dOne (oIsi "tuple") f)) := fd_isi ha hg B.isinstance hgy B.tuple boot_tuple (by decide) (by decide) he he2 hpl
end
def FnD (P : Program) (w : World) (K : PySem.W.Frag) (mg : Str → Option Value) (base : Heap) (Tb : List Addr) (x : Str) (k : Nat) (m : List PyData → R PyData) : Prop :=
  ∃ (f : Addr) (fd : FuncData) (ps : List Str), FnOk P w K mg base (L2N.CX P w) k f fd ps (spD K Tb m) ∧ mg x = some (.ref f) ∧ PySem.W.keepIn K (.ref f) = true ∧ Binds K fd ps []
section
variable {X : Cx} {Tb : List Addr} {W : WX} {k j : Nat} {m : List PyData → R PyData} {x : Str} {p pos : Pos} {e : Expr} {es : List Expr} {gl : DnL}
theorem e_call (F : FnD X.prog X.w X.K X.mg X.base Tb x k m) (hx : ∀ σ, PassesAt (L2N.CX X.prog X.w) X σ (L2.WE W σ)) (hr : Room j X.A) (ha : PA X (e :: es) (tDs X.K Tb W gl)) (hj : k ≤ j := by decide) (hg : Gl X x := by rfl)
    (hdb : (x == ("__debug__" : Str)) = false := by decide) (he : starEach (e :: es) X.env = (false, eval e X.env) :: starEach es X.env := by rfl) (hpl : (backTo pos (starEach es X.env)).any (·.1) = false := by rfl) :
    PE X (.Call (.Name x p) (e :: es) [] pos) (tD X.K Tb W (dArg m gl)) := by
  obtain ⟨f, fd, ps, h, g, kp, b⟩ := F
  exact fd_call h (hr.mono hj) hg g kp b hx ha hdb he hpl
end
end PD
set_option Elab.async false
set_option linter.all false
set_option maxRecDepth 100000
set_option maxHeartbeats 1000000
namespace PD
open PySem PySem.Spec PyProof.Rows L2
theorem cx_no {l : PySem.W.OpenLaw} : ∀ (w : World) (H : Hp) (s : Shared) (e : Value) (s' : Shared), L2N.CX l.prog w [] H s (fun _ _ _ => False) e s' → False := fun _ _ _ _ _ h => by
  obtain ⟨_, _, _, _, _, _, _, _, _, _, _, _, z⟩ := h
  exact z
theorem hide0 (H : Hp) : hide [] H = H := by funext b; unfold hide; rw [if_neg (by simp)]
theorem rp_ints {K : PySem.W.Frag} {G : Hp} : ∀ ns : List Int, RpAll K G (ns.map V.int) (ns.map PyData.int)
  | [] => .nil
  | n :: r => .cons (.int n) (rp_ints r)
theorem spD_law0 {K : PySem.W.Frag} {m : List PyData → R PyData} (hm : ∀ ns : List Int, ns.length ≤ 63 → m [.list (ns.map .int)] = .ok (.bool true)) {H : Hp} {a : Addr} {ns : List Int} (hl : ns.length ≤ 63) (hS : SqL K H a (ns.map V.int)) :
    spD K [] m [.ref a] H (fun v _ => v = .bl true) fun _ _ _ => False := by
  refine ⟨[], [.list (ns.map .int)], fun b m => by simp at m, fun P m => by simp at m, .cons (.lst (by rw [hide0]; exact hS) ?_ (rp_ints ns)) .nil, ?_⟩
  · rw [List.length_map, sizeLine_eq]; omega
  · rw [hm ns hl]
    intro v H' e r
    have r : Rp K (hide [] H') v (.bool true) := r
    cases r
    rfl
end PD
set_option Elab.async false
set_option linter.all false
set_option maxRecDepth 100000
set_option maxHeartbeats 1000000
namespace PD
open PySem PySem.Spec PyProof.Rows L2
end PD
set_option Elab.async false
set_option linter.all false
set_option maxRecDepth 100000
set_option maxHeartbeats 1000000
namespace PD
open PySem PySem.Spec PyProof.Rows L2
section
variable {X : Cx} {pins : List (Addr × Obj)} {σ : L2.St} {H : Hp} {s : Shared}
theorem itemsAre_of {P : Program} {w : World} : ∀ {k : List Int} {its : List Value}, Vals (k.map V.int) its → ItemsAre (intKind P w) k its
  | [], _, h => by cases h; exact .nil
  | i :: k, _, h => by
    cases h with
    | cons r t =>
      obtain ⟨u, rfl⟩ := r
      exact .cons (by show Value.isInt i (.int i u) = true; simp [Value.isInt]) (itemsAre_of t)
theorem key_is (I : Inv X pins σ H s) {b : Addr} {k : List Int} (h : SqT X.K H b (k.map V.int)) : (ikt X.prog X.w).is s.heap k b := by
  obtain ⟨its, rv, ⟨o, e, c, n, d⟩, _⟩ := I.tuple h
  exact ⟨o, its.toArray, n, e, c, d, itemsAre_of rv⟩
abbrev kvT (xs : List (List Int × Addr)) : List (List Int × Addr × Value) := xs.map fun x => (x.1, x.2, .bool true)
theorem dct_at (I : Inv X pins σ H s) {a : Addr} {ep : Nat} {xs : List (List Int × Addr)} (h : H a = some (dctO a ep xs)) (hk : ∀ x ∈ xs, SqT X.K H x.2 (x.1.map V.int)) : (a == sysModules) = false ∧ xs.length ≤ sizeLine ∧ s.heap.DictOfH (ikt X.prog X.w) a (kvT xs) := by
  obtain ⟨⟨h1, h2, h3, o, es, e1, e2, e3, e4⟩, _, _⟩ := I.hok a _ h
  refine ⟨h1, h2, o, es, ep, e1, e2, e3, ?_, fun x hx => ?_, ?_⟩
  · rw [e4 X.prog X.w, List.map_map]; rfl
  · obtain ⟨y, hy, rfl⟩ := List.mem_map.mp hx
    exact key_is I (hk y hy)
  · rw [List.map_map]; exact h3
theorem dct_ok {P : Program} {w : World} {H' : Hp} {h : Heap} {a : Addr} {xs : List (List Int × Addr)} (h1 : (a == sysModules) = false) (h2 : xs.length ≤ sizeLine) (d : h.DictOfH (ikt P w) a (kvT xs)) : ∃ ep, ObjOk P w H' h a (dctO a ep xs) := by
  obtain ⟨o, es, ep, e1, e2, e3, e4, _, e6⟩ := d
  rw [List.map_map] at e6 e4
  refine ⟨ep, ⟨h1, h2, e6, o, es, e1, e2, e3, fun P' w' => e4⟩, ⟨o, e1⟩, fun k1 k2 p st => ?_⟩
  obtain ⟨h1, h2, h3, o, es, e1, e2, e3, e4⟩ := p
  exact ⟨h1, h2, h3, o, es, st o e1, e2, e3, e4⟩
theorem dct_new {P : Program} {w : World} {H' : Hp} (h : Heap) (hb : sysModules < h.objs.size) : ObjOk P w H' (h.push { cls := .type "dict", data := .dict #[] }) h.objs.size (dctO h.objs.size 0 []) := by
  have e : (h.push { cls := .type "dict", data := .dict #[] }).get? h.objs.size = some { cls := .type "dict", data := .dict #[] } := Heap.get?_push_size _ rfl
  refine ⟨⟨beq_eq_false_iff_ne.mpr (Nat.ne_of_gt hb), Nat.zero_le _, List.nodup_nil, _, #[], e, ⟨rfl, rfl, rfl⟩, rfl, fun _ _ => rfl⟩, ⟨_, e⟩, fun k1 k2 p st => ?_⟩
  obtain ⟨h1, h2, h3, o, es, e1, e2, e3, e4⟩ := p
  exact ⟨h1, h2, h3, o, es, st o e1, e2, e3, e4⟩
theorem dct_any {P : Program} {w : World} {H H' : Hp} {h : Heap} {a : Addr} {ep : Nat} {xs : List (List Int × Addr)} (o : ObjOk P w H h a (dctO a ep xs)) : ObjOk P w H' h a (dctO a ep xs) := o
def putT (xs : List (List Int × Addr)) (k : List Int) (b : Addr) : List (List Int × Addr) := if k ∈ xs.map (·.1) then xs else xs ++ [(k, b)]
theorem atKey_kvT (xs : List (List Int × Addr)) (k : List Int) : (atKey (kvT xs) k).isSome = decide (k ∈ xs.map (·.1)) := by
  unfold atKey
  induction xs with
  | nil => rfl
  | cons x r ih =>
    rw [show kvT (x :: r) = (x.1, x.2, .bool true) :: kvT r from rfl, List.find?_cons]
    by_cases e : x.1 = k
    · subst e; simp
    · have e' : ¬ k = x.1 := fun z => e z.symm
      simp only [e, decide_false, List.map_cons, List.mem_cons, e', false_or]
      exact ih
theorem stored_kvT (xs : List (List Int × Addr)) (k : List Int) (b : Addr) : storedH (kvT xs) k b (.bool true) = kvT (putT xs k b) := by
  unfold storedH putT
  by_cases h : k ∈ xs.map (·.1)
  · rw [if_pos (by rw [atKey_kvT]; exact decide_eq_true h), if_pos h]
    unfold kvT
    rw [List.map_map]
    refine List.map_congr_left fun x _ => ?_
    show putAt k (.bool true) (x.1, x.2, .bool true) = _
    unfold putAt
    split <;> rfl
  · rw [if_neg (by rw [atKey_kvT]; simpa using h), if_neg h]
    unfold kvT
    rw [List.map_append]; rfl
theorem putT_len (xs : List (List Int × Addr)) (k : List Int) (b : Addr) : (putT xs k b).length ≤ xs.length + 1 := by
  unfold putT; split <;> simp
theorem putT_mem {xs : List (List Int × Addr)} {k : List Int} {b : Addr} {x : List Int × Addr} (h : x ∈ putT xs k b) : x ∈ xs ∨ x = (k, b) := by
  unfold putT at h
  split at h
  · exact .inl h
  · rcases List.mem_append.mp h with h | h
    · exact .inl h
    · exact .inr (List.mem_singleton.mp h)
/-- d[k] = True -/
theorem store_dct {E : Value → Shared → Prop} {D b : Addr} {ep : Nat} {xs : List (List Int × Addr)} {k : List Int} {Q : Unit → Shared → Prop} (hu : X.A.units < cLine) (I : Inv X pins σ H s) (hD : H D = some (dctO D ep xs)) (hk : ∀ x ∈ xs, SqT X.K H x.2 (x.1.map V.int)) (hz : xs.length < sizeLine)
    (hb : SqT X.K H b (k.map V.int)) (h : ∀ ep' s', Inv X pins σ (upd H D (dctO D ep' (putT xs k b))) s' → Q () s') : wpAny (model X.prog X.w) X.A (dictSet D (.ref b) (.bool true)) Q E s := by
  obtain ⟨h1, h2, d⟩ := dct_at I hD hk
  refine wpAny_dictSet_heap (hsz := by rw [List.length_map]; exact h2) hu (key_is I hb) d fun h' d' hs => ?_
  rw [stored_kvT] at d'
  have he : ∃ q, h'.get? D = some q := let ⟨q, _, _, hq, _⟩ := d'; ⟨q, hq⟩
  obtain ⟨ep', ok⟩ := dct_ok (P := X.prog) (w := X.w) (H' := H) h1 (by have := putT_len xs k b; omega) d'
  exact h ep' _ (I.write (x := D) (e := D) (by rw [hD]; trivial) (.inl rfl) (fun b q hb z => (hs.2 b hb).trans z) he (dct_any ok))
/-- k in d -/
def rInT (K : PySem.W.Frag) (neg : Bool) : R2 := fun x y H Q => ∃ a b k ep xs, x = .ref b ∧ y = .ref a ∧ SqT K H b (k.map V.int) ∧ H a = some (dctO a ep xs) ∧ (∀ x ∈ xs, SqT K H x.2 (x.1.map V.int)) ∧ Q (.bl (if neg then !decide (k ∈ xs.map (·.1)) else decide (k ∈ xs.map (·.1)))) H
theorem op_inT (hu : X.A.units + 65 < cLine) : OpR X (compareOp .In) (rInT X.K false) := by
  intro pins s σ H x y v u Q I rx ry h
  obtain ⟨a, b, k, ep, xs, rfl, rfl, hb, ha, hk, q⟩ := h
  cases rx; cases ry
  obtain ⟨h1, h2, d⟩ := dct_at I ha hk
  refine wpAny_in_heap (show X.A.units + 1 < cLine by omega) (key_is I hb) h1 d ?_
  rw [atKey_kvT]
  exact ⟨.bl _, H, I.tok _, rfl, q⟩
end
def asTu : PyData → Option (List Int)
  | .tuple l => asInts l
  | _ => none
def keysOf (kvs : List (PyData × PyData)) : List (Option (List Int)) := kvs.map fun p => asTu p.1
/-- a dict of another kind (PD1: dkD, obD) -/
def marked : List (PyData × PyData) → Bool
  | (.bool _, _) :: _ => true
  | (.none, _) :: _ => true
  | _ => false
def oInT (d e : PyData) : R PyData := match e with
  | .dict kvs => (match asTu d with | some k => if marked kvs = true then .bad else .ok (.bool (decide (some k ∈ keysOf kvs))) | none => .bad)
  | _ => .bad
def oNotInT (d e : PyData) : R PyData := match e with
  | .dict kvs => (match asTu d with | some k => if marked kvs = true then .bad else .ok (.bool (!decide (some k ∈ keysOf kvs))) | none => .bad)
  | _ => .bad
theorem marked_dct (xs : List (List Int × Addr)) : marked (xs.map dctE) = false := by cases xs <;> rfl
theorem asInts_eq : ∀ {l : List PyData} {k : List Int}, asInts l = some k → l = k.map .int
  | [], _, h => by cases h; rfl
  | .int i :: r, k, h => by
    unfold asInts at h
    cases e : asInts r with
    | none => rw [e] at h; cases h
    | some k' => rw [e] at h; cases h; rw [List.map_cons, asInts_eq e]
  | .none :: _, _, h => by cases h
  | .bool _ :: _, _, h => by cases h
  | .str _ :: _, _, h => by cases h
  | .list _ :: _, _, h => by cases h
  | .tuple _ :: _, _, h => by cases h
  | .dict _ :: _, _, h => by cases h
theorem asInts_ints : ∀ l : List Int, asInts (l.map .int) = some l
  | [] => rfl
  | x :: r => by rw [List.map_cons, asInts, asInts_ints r]; rfl
theorem keysOf_dct (xs : List (List Int × Addr)) : keysOf (xs.map dctE) = xs.map fun x => some x.1 := by
  unfold keysOf
  rw [List.map_map]
  exact List.map_congr_left fun x _ => asInts_ints x.1
theorem rp_ints_inv {K : PySem.W.Frag} {G : Hp} : ∀ {k : List Int} {vs : List V}, RpAll K G vs (k.map .int) → vs = k.map V.int
  | [], _, h => by cases h; rfl
  | i :: k, _, h => by
    cases h with
    | cons r t => cases r; rw [List.map_cons, rp_ints_inv t]
theorem asTu_rp {K : PySem.W.Frag} {G : Hp} {v : V} {d : PyData} {k : List Int} (r : Rp K G v d) (h : asTu d = some k) : ∃ b, v = .ref b ∧ SqT K G b (k.map V.int) := by
  unfold asTu at h
  split at h
  · cases r with
    | tup a z b =>
      have e := asInts_eq h
      subst e
      rw [rp_ints_inv b] at a
      exact ⟨_, rfl, a⟩
  · cases h
theorem mem_some {α : Type} [DecidableEq α] (l : List (List Int × α)) (k : List Int) : decide (some k ∈ l.map fun x => some x.1) = decide (k ∈ l.map (·.1)) := by
  have : (some k ∈ l.map fun x => some x.1) ↔ k ∈ l.map (·.1) := by simp
  by_cases h : k ∈ l.map (·.1)
  · rw [decide_eq_true h, decide_eq_true (this.mpr h)]
  · rw [decide_eq_false h, decide_eq_false fun z => h (this.mp z)]
section
variable {K : PySem.W.Frag}
theorem ok_inT : Ok2 K (rInT K false) oInT := by
  intro O H Wx x y d e Q al hx hy h
  unfold oInT at h
  split at h
  · split at h
    · rename_i k hk
      obtain ⟨b, rfl, hb⟩ := asTu_rp hx hk
      cases hy with
      | dk _ _ _ => exact h.elim
      | ins _ _ _ => exact h.elim
      | dct a c =>
        rw [if_neg (by rw [marked_dct]; simp), keysOf_dct, mem_some] at h
        exact ⟨_, b, k, _, _, rfl, rfl, Sub.unhide.sqT hb, (hide_some a).2, fun x hx => Sub.unhide.sqT (c x hx), Post.here h (.bl _)⟩
    · exact h.elim
  · exact h.elim
end
section
variable {X : Cx} {Tb : List Addr} {W : WX} {a b : Expr} {f g : Dn} {pos : Pos} {k : Nat}
theorem t_inT (hr : Room k X.A) (ha : PE X a (tD X.K Tb W f)) (hb : PE X b (tD X.K Tb W g)) (hm : behindInMarks .In b = false := by rfl) : PT X (.Compare a [.In] [b] pos) (tDT X.K Tb W (dAsB (dTwo oInT f g))) := ft_cmp (op_inT hr.u65) ok_inT ha hb hm
end
end PD
set_option Elab.async false
set_option linter.all false
set_option maxRecDepth 100000
set_option maxHeartbeats 1000000
namespace PD
open PySem PySem.Spec PyProof.Rows L2
section
variable (X : Cx) (s : Shared) (scope : Scope)
/-- the block's own environment -/
abbrev envBlk : Env := compEnvC scope (cellsFrom (s.heap.objs.size + 1) scope.names (cloFrom X.env.cells scope.names [])) s.heap.objs.size X.env
/-- the block's context -/
abbrev inBlk (H : Hp) (fp : List Addr) : Cx := X.blk s H scope (envBlk X s scope) fp
end
section
variable {X : Cx} {pins : List (Addr × Obj)} {σ : L2.St} {vs : List Nat} {s0 : Shared} {H0 : Hp} {scope : Scope} {fp : List Addr} {tn : Nat → Heap → Prop} {J : It} {tg : Expr} {it : Addr}
/-- a turn is about to start -/
structure AtTurn (X : Cx) (s0 : Shared) (H0 : Hp) (scope : Scope) (fp : List Addr) (tn : Nat → Heap → Prop) (τ : L2.St) (i : Nat) (H : Hp) (s : Shared) : Prop where
  inv : Inv (inBlk X s0 scope H0 fp) [] τ H s
  own : tn i s.heap
  hid : ∀ b ∈ fp, H b = none
theorem AtTurn.free {τ : L2.St} {i : Nat} {H : Hp} {s : Shared} (a : AtTurn X s0 H0 scope fp tn τ i H s) {b : Addr} (hb : b ∈ fp) : FpOk (inBlk X s0 scope H0 fp) [] H b := by
  have w := a.inv.ok.exf b hb
  refine ⟨a.hid b hb, w.1, a.inv.ok.exfs b hb, Or.inl hb, fun x c e => w.2 x c e, ?_⟩
  intro p hp
  simp [Cx.blk] at hp
theorem AtTurn.next {τ σ1 : L2.St} {i : Nat} {H1 : Hp} {s1 s2 : Shared} (T : Turn X.prog X.w X.K tg J fp it tn) (e : L2.wipe σ1 vs = L2.wipe σ vs) (t1 : tn i s1.heap)
    (I : Inv (inBlk X s0 scope H0 fp) ([] ++ pinsAt fp s1.heap) σ1 H1 s2) : AtTurn X s0 H0 scope fp tn (L2.wipe σ vs) i H1 s2 := by
  have same : ∀ b ∈ fp, ∀ o, s1.heap.get? b = some o → s2.heap.get? b = some o ∧ H1 b = none := by
    intro b hb o hbo
    have mem : (b, o) ∈ (inBlk X s0 scope H0 fp).pn ++ ([] ++ pinsAt fp s1.heap) := by
      rw [List.nil_append]
      exact List.mem_append_right _ (mem_pinsAt hb hbo)
    exact ⟨(I.pin _ mem).1, (I.pin _ mem).2.1⟩
  have wide : (L2.wipe σ vs).length = σ1.length := e ▸ wipe_length ..
  constructor
  · refine I.unpinned.weak wide ?_
    intro j v hj
    exact (wipe_some (e ▸ hj)).1
  · exact T.keep _ _ _ t1 fun b hb o hbo => (same b hb o hbo).1
  · intro b hb
    obtain ⟨o, hbo, -⟩ := T.obj _ _ t1 b hb
    exact (same b hb o hbo).2
/-- the def around the block, behind it -/
theorem AtTurn.leave {τ : L2.St} {H1 : Hp} {s1 : Shared} (I0 : Inv X pins σ H0 s0) (f0 : ∀ b ∈ fp, FpOk X pins H0 b) (I1 : Inv (inBlk X s0 scope H0 fp) [] τ H1 s1) :
    Inv X pins σ H1 s1 ∧ FpOk X pins H1 s0.heap.objs.size ∧ ∃ m, s1.heap.Ns s0.heap.objs.size m := by
  have fr : H1 s0.heap.objs.size = none := I1.free
  obtain ⟨m, hm, -⟩ := I1.loc
  refine ⟨I0.call' (ch := fp) I1.os I1.base I1.hok I1.bare ?_, I0.fpOk (Nat.le_refl _) fr, m, hm⟩
  intro b hb
  obtain ⟨-, b1, -, b3, b4, b5⟩ := f0 b hb
  exact ⟨b3, b1, b4, b5⟩
/-- what the rule asks of a turn -/
def keyTurn (K : PySem.W.Frag) (σ : L2.St) (vs : List Nat) (g : TG) (tt : TT) (tk : TE) (D : Addr) (Nx : Hp → Prop) (x : V) (H : Hp) : Prop :=
  g x (L2.wipe σ vs) H fun σ2 H2 => L2.wipe σ2 vs = L2.wipe σ vs ∧ tt σ2 H2 fun b H3 =>
    if b = true then tk σ2 H3 fun y H4 => ∃ ep xs p k, y = .ref p ∧ H4 D = some (dctO D ep xs) ∧ (∀ x ∈ xs, SqT K H4 x.2 (x.1.map V.int)) ∧ xs.length < sizeLine ∧ SqT K H4 p (k.map V.int) ∧ ∀ ep', Nx (upd H4 D (dctO D ep' (putT xs k p))) else Nx H3
def tDcT (K : PySem.W.Frag) (wi : TI) (g : TG) (tt : TT) (tk : TE) (vs : List Nat) : TE := fun σ H Q => wi σ H fun J H1 => ∀ D, H1 D = none → ∃ W : Nat → Nat → Hp → Prop, (∃ m, W 0 m (upd H1 D (dctO D 0 []))) ∧ ∀ i m H, W i m H →
  (J.stop i H ∧ Q (.ref D) H) ∨ (J.go i H ∧ ∃ Nx : Hp → Prop, (∀ H', Nx H' → ∃ m', m' < m ∧ W (i + 1) m' H') ∧ ∀ x H', J.yld i H x H' → keyTurn K σ vs g tt tk D Nx x H')
/-- all turns, from the first one on -/
theorem keyLoop {kx iter : Expr} {ifs : List Expr} {pos : Pos} {g : TG} {tt : TT} {tk : TE} {tpos : Pos} {tj : Nat} {D : Addr} {Q : VK} {R : Result → Shared → Prop} {W : Nat → Nat → Hp → Prop} {m0 : Nat}
    (hu : X.A.units < cLine) (hc : X.calm = true) (T : Turn X.prog X.w X.K tg J fp it tn)
    (pg : PG (inBlk X s0 scope H0 fp) tg g) (pt : PTs (inBlk X s0 scope H0 fp) ifs tt) (pk : PE (inBlk X s0 scope H0 fp) kx tk)
    (turn : ∀ i m H, W i m H → (J.stop i H ∧ Q (.ref D) H) ∨ (J.go i H ∧ ∃ Nx : Hp → Prop, (∀ H', Nx H' → ∃ m', m' < m ∧ W (i + 1) m' H') ∧ ∀ x H', J.yld i H x H' → keyTurn X.K σ vs g tt tk D Nx x H'))
    (over : ∀ H s, Inv (inBlk X s0 scope H0 fp) [] (L2.wipe σ vs) H s → Q (.ref D) H → R (.ok .next) s)
    {s : Shared} {H : Hp} (w0 : W 0 m0 H) (a0 : AtTurn X s0 H0 scope fp tn (L2.wipe σ vs) 0 H s) :
    codeAny (model X.prog X.w) X.A (.compLoop (.DictComp kx (.Constant (.bool true) tj tpos) [⟨tg, iter, ifs, 0⟩] scope pos) 0 (.ref it) (.ref D) (envBlk X s0 scope)) R s := by
  refine compLoop_anyD (fun m s => ∃ i H, AtTurn X s0 H0 scope fp tn (L2.wipe σ vs) i H s ∧ W i m H) ?_ m0 ⟨0, H, a0, w0⟩
  intro m s1 ⟨i, H1, a1, w1⟩
  cases turn i m H1 w1 with
  | inl z =>
    refine thnF (T.done (inBlk X s0 scope H0 fp) rfl rfl rfl hc i [] s1 _ H1 (fun _ _ => False) a1.inv (fun b => a1.free) a1.own z.1) ?_
    rintro r s2 ⟨rfl, I2⟩
    exact over H1 s2 I2 z.2
  | inr z =>
    obtain ⟨go, Nx, less, each⟩ := z
    refine thnF (T.item (inBlk X s0 scope H0 fp) rfl rfl rfl hc i [] s1 _ H1 (fun _ _ => False) a1.inv (fun b => a1.free) a1.own go) ?_
    rintro r s2 ⟨u, rfl, hu2⟩
    refine thnF hu2 ?_
    rintro _ s3 ⟨x, H3, I3, rx, hx, t3, n3⟩
    have a3 : AtTurn X s0 H0 scope fp tn (L2.wipe σ vs) (i + 1) H3 s3 := ⟨I3, t3, n3⟩
    have done : ∀ {σ4 : L2.St} {s5 : Shared} {H5 : Hp}, L2.wipe σ4 vs = L2.wipe σ vs → Inv (inBlk X s0 scope H0 fp) ([] ++ pinsAt fp s3.heap) σ4 H5 s5 → Nx H5 →
        ∃ m', m' < m ∧ ∃ i H, AtTurn X s0 H0 scope fp tn (L2.wipe σ vs) i H s5 ∧ W i m' H := by
      intro σ4 s5 H5 e I5 nx
      obtain ⟨m', lt, w⟩ := less H5 nx
      exact ⟨m', lt, i + 1, H5, AtTurn.next (τ := σ) T e t3 I5, w⟩
    refine thnF (pg.run _ s3 _ H3 x u _ (I3.pinned (fun b => a3.free) (T.obj _ _ t3)) rx (each x H3 hx)) ?_
    rintro _ s4 ⟨σ4, H4, I4, e4, q4⟩
    refine thnF (pt.run _ s4 σ4 H4 _ I4 q4) ?_
    rintro b s5 ⟨H5, I5, q5⟩
    rcases b with _ | _
    · exact done e4 I5 q5
    · refine thnF (pk.run _ s5 σ4 H5 _ I5 q5) ?_
      rintro kv s6 ⟨_, H6, I6, rk, ep, xs, p, k, rfl, hD, hks, hsz, hp, nx⟩
      cases rk
      exact Constant_bool (store_dct (X := inBlk X s0 scope H0 fp) hu I6 hD hks hsz hp fun ep7 s7 I7 => done e4 I7 (nx ep7))
end
section
variable {X : Cx} {kx tg iter : Expr} {ifs : List Expr} {scope : Scope} {own : List (Str × Nat)} {pos : Pos} {wi : TI} {g : TG} {tt : TT} {tk : TE} {tpos : Pos} {tj : Nat}
/-- the parts of such a comprehension, read -/
structure KeyParts (X : Cx) (kx tg iter : Expr) (ifs : List Expr) (scope : Scope) (own : List (Str × Nat)) (wi : TI) (g : TG) (tt : TT) (tk : TE) : Prop where
  line : X.A.units < cLine
  calm : X.calm = true
  nd : X.N.Nodup
  walk : PI X tg iter wi
  blk : BlkOk X.N X.env.scope scope own
  tgt : ∀ (s : Shared) (H : Hp) (fp : List Addr), PG (inBlk X s scope H fp) tg g
  test : ∀ (s : Shared) (H : Hp) (fp : List Addr), PTs (inBlk X s scope H fp) ifs tt
  key : ∀ (s : Shared) (H : Hp) (fp : List Addr), PE (inBlk X s scope H fp) kx tk
  plain : ∀ x, foldedSetIterable iter X.env x = pure x
theorem KeyParts.run (P : KeyParts X kx tg iter ifs scope own wi g tt tk) {pins : List (Addr × Obj)} {s : Shared} {σ : L2.St} {H : Hp} {Q : VK} {pos' : Pos} {use : Option (Value → Sem Unit)} {Qf : Value → Shared → Prop}
    (I : Inv X pins σ H s) (h : tDcT X.K wi g tt tk (own.map (·.2)) σ H Q)
    (hQ : ∀ D C s' m H', Inv X pins σ H' s' → Q (.ref D) H' → s'.heap.Ns C m → FpOk X pins H' C → compPost (model X.prog X.w) X.A X.xe use Qf (.ref D) C (.ok .next) s') :
    wpAny (model X.prog X.w) X.A (comprehension (.DictComp kx (.Constant (.bool true) tj tpos) [⟨tg, iter, ifs, 0⟩] scope pos) scope X.env pos' newDict false (eval iter X.env) use) Qf X.xe s := by
  have cells : ∀ y ∈ scope.names, y.2 = .free → ∃ c, X.env.cells.lookup y.1 = some c := by
    intro y hy e
    cases P.blk.free y hy e with
    | inl z => exact I.ok.has _ (.inl z)
    | inr z => exact I.ok.has _ (.inr z)
  have locs : ∀ y ∈ scope.names, y.2 = .local → scope.names.lookup y.1 = some .local := fun y hy e => (P.blk.uniq y hy).trans (congrArg some e)
  refine wpAny_comprehension_free (use := use) rfl P.plain (closure_ok cells) P.blk.kind locs ?_
  refine thn (P.walk.run pins s σ H _ I h) ?_
  intro x s1 h1
  refine thn h1 ?_
  rintro _ s2 ⟨it, fp, tn, J, H2, rfl, I2, T, t2, f2, h2⟩
  -- the dict
  refine wpAny_newObj_type ?_
  obtain ⟨W, ⟨m0, w0⟩, turn⟩ := h2 s2.heap.objs.size (I2.hok.fresh (Nat.le_refl _))
  have I3 : Inv X pins σ (upd H2 s2.heap.objs.size (dctO s2.heap.objs.size 0 [])) { s2 with heap := s2.heap.push { cls := .type "dict", data := .dict #[] } } :=
    I2.laid (t' := s2.toks) (fun b o e => Heap.get?_push_of_some _ e) (Nat.le_refl _)
      (dct_new s2.heap I2.big)
  have f3 : ∀ b ∈ fp, FpOk X pins (upd H2 s2.heap.objs.size (dctO s2.heap.objs.size 0 [])) b ∧ b < (s2.heap.push { cls := .type "dict", data := .dict #[] }).objs.size := by
    intro b hb
    obtain ⟨o, hbo, -⟩ := T.obj _ _ t2 b hb
    have lt : b < s2.heap.objs.size := Heap.lt_size hbo
    refine ⟨⟨(upd_ne (Nat.ne_of_lt lt)).trans (f2 b hb).1, (f2 b hb).2⟩, ?_⟩
    rw [Heap.size_push]
    exact Nat.lt_succ_of_lt lt
  have t3 : tn 0 (s2.heap.push { cls := .type "dict", data := .dict #[] }) := T.keep _ _ _ t2 fun b _ o e => Heap.get?_push_of_some _ e
  -- the block
  refine newEnv_comp ?_
  have t4 := T.keep _ _ (pushCells (((s2.heap.push { cls := .type "dict", data := .dict #[] })).push { cls := .type "dict", data := .dict #[] }) scope.names) t3 fun b _ o e => pushCells_keeps _ _ _ _ (Heap.get?_push_of_some _ e)
  have loop := keyLoop (σ := σ) (vs := own.map (·.2)) (pos := pos) (tpos := tpos) (tj := tj) (R := compPost (model X.prog X.w) X.A X.xe use Qf (.ref s2.heap.objs.size) (s2.heap.push { cls := .type "dict", data := .dict #[] }).objs.size) (iter := iter)
    P.line P.calm T (P.tgt _ _ fp) (P.test _ _ fp) (P.key _ _ fp) turn
    (fun H5 s5 I5 q => by
      obtain ⟨I6, f6, m, hm⟩ := AtTurn.leave I3 (fun b hb => (f3 b hb).1) I5
      exact hQ _ _ s5 m H5 I6 q hm f6)
    w0 ⟨block_start I3 P.blk P.nd f3, t4, fun b hb => (f3 b hb).1.1⟩
  exact codeAny_compStart_dict loop (T.self X.A 0 _ _ _ t4 loop)
theorem KeyParts.of (hu : X.A.units < cLine) (hc : X.calm = true) (hN : X.N.Nodup) (hi : PI X tg iter wi) (ok : BlkOk X.N X.env.scope scope own)
    (hg : ∀ (s : Shared) (H : Hp) (C : Addr) (cl : List (Str × Addr)) (fp : List Addr), PG (X.blk s H scope (compEnvC scope cl C X.env) fp) tg g) (ht : ∀ (s : Shared) (H : Hp) (C : Addr) (cl : List (Str × Addr)) (fp : List Addr), PTs (X.blk s H scope (compEnvC scope cl C X.env) fp) ifs tt)
    (hk : ∀ (s : Shared) (H : Hp) (C : Addr) (cl : List (Str × Addr)) (fp : List Addr), PE (X.blk s H scope (compEnvC scope cl C X.env) fp) kx tk)
    (hs : ∀ x, foldedSetIterable iter X.env x = pure x) : KeyParts X kx tg iter ifs scope own wi g tt tk :=
  ⟨hu, hc, hN, hi, ok, fun s H fp => hg s H _ _ fp, fun s H fp => ht s H _ _ fp, fun s H fp => hk s H _ _ fp, hs⟩
/-- the block's frame is dropped -/
theorem FpOk_drop {pins : List (Addr × Obj)} {σ : L2.St} {H : Hp} {s : Shared} {C : Addr} (f : FpOk X pins H C) (I : Inv X pins σ H s) {h' : Heap} (k : ∀ b o, b ≠ C → s.heap.get? b = some o → h'.get? b = some o) : Inv X pins σ H { s with heap := h' } :=
  I.turned (t' := s.toks) k f.1 f.2.1 f.2.2.2.1 f.2.2.2.2.1 f.2.2.2.2.2
theorem pe_dcT (hu : X.A.units < cLine) (hc : X.calm = true) (hN : X.N.Nodup) (hi : PI X tg iter wi) (ok : BlkOk X.N X.env.scope scope own)
    (hg : ∀ (s : Shared) (H : Hp) (C : Addr) (cl : List (Str × Addr)) (fp : List Addr), PG (X.blk s H scope (compEnvC scope cl C X.env) fp) tg g) (ht : ∀ (s : Shared) (H : Hp) (C : Addr) (cl : List (Str × Addr)) (fp : List Addr), PTs (X.blk s H scope (compEnvC scope cl C X.env) fp) ifs tt)
    (hk : ∀ (s : Shared) (H : Hp) (C : Addr) (cl : List (Str × Addr)) (fp : List Addr), PE (X.blk s H scope (compEnvC scope cl C X.env) fp) kx tk)
    (hs : ∀ x, foldedSetIterable iter X.env x = pure x := by intro _; rfl) :
    PE X (.DictComp kx (.Constant (.bool true) tj tpos) [⟨tg, iter, ifs, 0⟩] scope pos) (tDcT X.K wi g tt tk (own.map (·.2))) := by
  constructor
  intro pins s σ H Q I h
  rw [arm_eval_DictComp]
  refine (KeyParts.of hu hc hN hi ok hg ht hk hs).run I h ?_
  intro D C s' m H' I' q hm f
  refine ⟨m, hm, fun h2 sb => ⟨.ref D, H', FpOk_drop f I' ?_, rfl, q⟩⟩
  intro b o hb e
  rw [← e]
  exact sb.2 b hb
end
end PD
set_option Elab.async false
set_option linter.all false
set_option maxRecDepth 100000
set_option maxHeartbeats 1000000
namespace PD
open PySem PySem.Spec PyProof.Rows L2
def dcGo (t : Tg) (ft : DnB) (fk : Dn) (ρ : Rho) : List PyData → List (List Int) → R (List (List Int))
  | [], acc => .ok acc
  | d :: ds, acc => match t.set d ρ with
    | some ρ1 => nx (ft ρ1) fun b => if b = true then nx (fk ρ1) fun y => (match asTu y with
        | some k => dcGo t ft fk ρ ds (if k ∈ acc then acc else acc ++ [k])
        | none => .bad) else dcGo t ft fk ρ ds acc
    | none => .bad
def keyD (k : List Int) : PyData × PyData := (.tuple (k.map .int), .bool true)
def dDc (fi : DnL) (t : Tg) (ft : DnB) (fk : Dn) (vs : List Nat) : Dn := fun ρ => fi ρ >>= fun ds => nx (dcGo t ft fk (wipeR ρ vs) ds []) fun ks => .ok (.dict (ks.map keyD))
theorem putT_keys (xs : List (List Int × Addr)) (k : List Int) (b : Addr) : (putT xs k b).map (·.1) = if k ∈ xs.map (·.1) then xs.map (·.1) else xs.map (·.1) ++ [k] := by
  unfold putT
  split
  · rfl
  · rw [List.map_append]; rfl
section
variable {K : PySem.W.Frag} {Tb : List Addr} {H0 H H1 : Hp} {O0 O : List Addr} {ρ : Rho} {σ : L2.St} {D p : Addr}
/-- an object of the ext kind that no heap of code objects alone makes true -/
def codeHeap (n : Nat) (q : Str) : Heap := { objs := Array.replicate n { cls := .none, data := .fields #[.none, .str q 0] } }
theorem codeHeap_get {n : Nat} {q : Str} {a : Addr} {o : Obj} (h : (codeHeap n q).get? a = some o) : o.data = .fields #[.none, .str q 0] := by
  unfold codeHeap Heap.get? at h
  dsimp only at h
  rw [Array.getElem?_replicate] at h
  by_cases z : a < n
  · rw [if_pos z] at h
    cases h
    rfl
  · rw [if_neg z] at h
    cases h
theorem plain_ext {φ : Heap → Prop} (h : ∀ n q, ¬ φ (codeHeap n q)) : Plain (HO.ext φ) := ⟨fun c q e => by
  unfold LamX.CodeO at e
  injection e with e
  have z := congrFun e (codeHeap (c + 1) q)
  refine h (c + 1) q (z.symm ▸ ⟨{ cls := .none, data := .fields #[.none, .str q 0] }, #[.none, .str q 0], 0, ?_, rfl, rfl⟩)
  unfold Heap.get? codeHeap
  simp, fun _ e => by cases e⟩
theorem plain_dct (a : Addr) (ep : Nat) (xs : List (List Int × Addr)) : Plain (dctO a ep xs) := plain_ext fun n q ⟨_, _, _, o, es, h1, _, h3, _⟩ => by
  rw [codeHeap_get h1] at h3
  cases h3
/-- the hidden object at D, which no slot owns, is changed; any object but a table -/
theorem St0.hidO {o o' : HO} (st : St0 K Tb H0 O0 O H σ ρ) (m : D ∈ O) (m0 : D ∉ O0) (hD : H D = some o) (po : Plain o) (pn : Plain o') (hs : ∀ (i : Nat) (s : Sl), s.Hold → ρ[i]? = some (some s) → σ[i]? ≠ some (some (.ref D))) (hxd : ∀ fs, o ≠ .xd fs := by intro _ z; cases z) : St0 K Tb H0 O0 O (upd H D o') σ ρ where
  ext := st.ext.updN (st.new D m m0) fun c q z => po.1 c q (Option.some.inj (hD.symm.trans z))
  sub := st.sub
  new := st.new
  al := fun b h => by
    by_cases hb : b = D
    · rw [hb, upd_same]; simp
    · rw [upd_ne hb]; exact st.al b h
  tab := fun P mp => by
    have hb : P ≠ D := tabG_ne (st.tab P mp) fun ps q => by rw [hD] at q; exact po.2 ps (Option.some.inj q)
    exact (st.tab P mp).mono (fun ps h => by rw [upd_ne hb]; exact h) fun c q h => by
      rw [upd_ne fun z => po.1 c q (Option.some.inj (hD.symm.trans (by rw [← z]; exact h)))]
      exact h
  pln := fun b mb nb => by
    by_cases hb : b = D
    · exact ⟨_, by rw [hb]; exact upd_same, pn⟩
    · obtain ⟨x, h, q⟩ := st.pln b mb nb
      exact ⟨x, by rw [upd_ne hb]; exact h, q⟩
  len := st.len
  slot := fun i x h => by
    obtain ⟨v, h1, h2⟩ := st.slot i x h
    refine ⟨v, h1, h2.mv (by rw [hide_upd m]; exact fun _ _ h _ => h) (fun hx p ev mp _ => ⟨mp, fun o hp _ => ?_⟩) fun dd fs h => ?_⟩
    · have hne : p ≠ D := fun e => hs i x hx h (by rw [h1, ev, e])
      rw [upd_ne hne]; exact hp
    · rw [upd_ne (fun e => by rw [e, hD] at h; exact hxd fs (Option.some.inj h))]; exact h
  inj := st.inj
end
section
variable {X : Cx} {Tb : List Addr} {W : WX}
theorem dc_walk {K : PySem.W.Frag} {t : Tg} {ft : DnB} {fk : Dn} {fi : DnL} {vs : List Nat} {σ : L2.St} {H : Hp} {Q : VK} (hv : ∀ i ∈ t.ixs, i ∈ vs) (h : tD K Tb W (dDc fi t ft fk vs) σ H Q) :
    tDcT K (tI K Tb W fi) (tG K Tb t) (tDT K Tb W0 ft) (tD K Tb W0 fk) vs σ H Q := by
  obtain ⟨H0, O0, O, ρ, st, h⟩ := h
  refine ⟨H0, O0, O, ρ, st, Post.then h fun ds J H1 e it k => ?_⟩
  cases q : dcGo t ft fk (wipeR ρ vs) ds [] with
  | exc x => rw [q] at k; exact k.elim
  | bad => rw [q] at k; exact k.elim
  | ok ks =>
    rw [q] at k
    have st1 := st.step e
    intro D nD
    have aD : D ∉ O := st1.fresh nD
    have stw := (st1.wiped vs).more (o := dctO D 0 []) nD (plain_dct D 0 [])
    have aD0 : D ∉ O0 := fun m => aD (st1.sub D m)
    have own : ∀ (i : Nat) (s : Sl), s.Hold → (wipeR ρ vs)[i]? = some (some s) → (L2.wipe σ vs)[i]? ≠ some (some (.ref D)) := fun i s hs h1 h2 => aD ((st1.wiped vs).hold hs h1 h2).1
    have nO : ∀ b ∈ D :: O, hide O H1 b = none := fun b hb => by
      rcases List.mem_cons.mp hb with rfl | hb
      · exact hide_none nD
      · exact hide_in hb
    refine ⟨fun i m H' => i ≤ ds.length ∧ m = ds.length - i ∧ ∃ ep xs, St0 K Tb H0 O0 (D :: O) H' (L2.wipe σ vs) (wipeR ρ vs) ∧ Ext H1 H' ∧ H' D = some (dctO D ep xs) ∧ (∀ x ∈ xs, SqT K (hide (D :: O) H') x.2 (x.1.map V.int)) ∧ xs.length ≤ i ∧ dcGo t ft fk (wipeR ρ vs) (ds.drop i) (xs.map (·.1)) = .ok ks,
      ⟨ds.length, Nat.zero_le _, by simp, 0, [], stw, Ext.new nD, upd_same, by simp, Nat.le_refl _, q⟩, ?_⟩
    rintro i m H' ⟨hi, rfl, ep, xs, s1, e1, hD, hk, la, go⟩
    have eG : Ext (hide O H1) H' := Ext.unhide.trans e1
    by_cases hlt : i < ds.length
    · refine .inr ⟨it.go i H' eG hlt, fun H2 => i + 1 ≤ ds.length ∧ ∃ ep xs, St0 K Tb H0 O0 (D :: O) H2 (L2.wipe σ vs) (wipeR ρ vs) ∧ Ext H1 H2 ∧ H2 D = some (dctO D ep xs) ∧ (∀ x ∈ xs, SqT K (hide (D :: O) H2) x.2 (x.1.map V.int)) ∧ xs.length ≤ i + 1 ∧ dcGo t ft fk (wipeR ρ vs) (ds.drop (i + 1)) (xs.map (·.1)) = .ok ks,
        fun H2 q => ⟨ds.length - (i + 1), by omega, q.1, rfl, q.2⟩, fun x H2 y => ?_⟩
      obtain ⟨e2, d, hd, rx⟩ := it.yld i H' (D :: O) x H2 eG nO s1.al hlt y
      have hdr : ds.drop i = d :: ds.drop (i + 1) := by
        obtain ⟨hl, hd'⟩ := List.getElem?_eq_some_iff.mp hd
        rw [List.drop_eq_getElem_cons hl, hd']
      rw [hdr] at go
      unfold dcGo at go
      cases et : t.set d (wipeR ρ vs) with
      | none => rw [et] at go; cases go
      | some ρ1 =>
        rw [et] at go
        obtain ⟨b, eb, go⟩ := nx_ok go
        have s2 := s1.step e2
        refine ⟨H0, O0, D :: O, wipeR ρ vs, ρ1, d, s2, rx, et, fun σ' st' ag => ⟨(ag.wipe hv).trans wipe_wipe, H0, O0, D :: O, ρ1, st', ?_⟩⟩
        rw [eb]
        intro b' H3 e3 r3
        cases (show b' = b from r3)
        have s3 := st'.step e3
        cases b with
        | false =>
          exact ⟨hlt, ep, xs, s2.step e3, (e1.trans e2).trans e3, (e2.trans e3).keep D _ hD (fun _ q => by cases q), fun x hx => (Sub.hide (e2.trans e3).keep).sqT (hk x hx), Nat.le_succ_of_le la, go⟩
        | true =>
          obtain ⟨yd, ey1, go⟩ := nx_ok go
          refine ⟨H0, O0, D :: O, ρ1, s3, ?_⟩
          rw [ey1]
          intro y H4 e4 r4
          cases ek : asTu yd with
          | none =>
            have go : (match asTu yd with | some k => dcGo t ft fk (wipeR ρ vs) (ds.drop (i + 1)) (if k ∈ xs.map Prod.fst then xs.map Prod.fst else xs.map Prod.fst ++ [k]) | none => R.bad) = .ok ks := go
            rw [ek] at go; cases go
          | some key =>
            have go : (match asTu yd with | some k => dcGo t ft fk (wipeR ρ vs) (ds.drop (i + 1)) (if k ∈ xs.map Prod.fst then xs.map Prod.fst else xs.map Prod.fst ++ [k]) | none => R.bad) = .ok ks := go
            rw [ek] at go
            obtain ⟨p, rfl, hp⟩ := asTu_rp r4 ek
            have e24 := (e2.trans e3).trans e4
            have hD4 := e24.keep D _ hD (fun _ q => by cases q)
            have s4 := (s2.step e3).step e4
            have hk4 : ∀ x ∈ xs, SqT K (hide (D :: O) H4) x.2 (x.1.map V.int) := fun x hx => (Sub.hide e24.keep).sqT (hk x hx)
            have zl : xs.length < sizeLine := by have := it.len; omega
            refine ⟨ep, xs, p, key, rfl, hD4, fun x hx => Sub.unhide.sqT (hk4 x hx), zl, Sub.unhide.sqT hp, fun ep' => ⟨hlt, ep', putT xs key p, s4.hidO List.mem_cons_self aD0 hD4 (plain_dct D _ _) (plain_dct D _ _) own, (e1.trans e24).updN nD (fun c q z => (plain_dct D _ _).1 c q (Option.some.inj (hD4.symm.trans z))), upd_same, fun x hx => ?_, by have := putT_len xs key p; omega, ?_⟩⟩
            · rw [hide_upd List.mem_cons_self]
              rcases putT_mem hx with hx | rfl
              · exact hk4 x hx
              · exact hp
            · rw [putT_keys]; exact go
    · have ei : i = ds.length := by omega
      subst ei
      refine .inl ⟨it.stop H' eG, ?_⟩
      rw [List.drop_length] at go
      cases go
      have e5 : (xs.map (·.1)).map keyD = xs.map dctE := by rw [List.map_map]; rfl
      refine k _ H' e1 ?_
      show Rp K (hide O H') (.ref D) (.dict ((xs.map (·.1)).map keyD))
      rw [e5]
      exact .dct (by rw [hide_out aD]; exact hD) fun x hx => (Sub.less fun b hb => List.mem_cons_of_mem _ hb).sqT (hk x hx)
/-- {key: True for t in i if c} -/
theorem fd_dc {kx tg iter : Expr} {ifs : List Expr} {scope : Scope} {own : List (Str × Nat)} {pos tpos : Pos} {tj k : Nat} {fi : DnL} {t : Tg} {ft : DnB} {fk : Dn} (hr : Room k X.A) (hc : X.calm = true) (hN : X.N.Nodup) (hi : PI X tg iter (tI X.K Tb W fi)) (ok : BlkOk X.N X.env.scope scope own)
    (hg : ∀ (s : Shared) (H : Hp) (C : Addr) (cl : List (Str × Addr)) (fp : List Addr), PG (X.blk s H scope (compEnvC scope cl C X.env) fp) tg (tG X.K Tb t))
    (ht : ∀ (s : Shared) (H : Hp) (C : Addr) (cl : List (Str × Addr)) (fp : List Addr), PTs (X.blk s H scope (compEnvC scope cl C X.env) fp) ifs (tDT X.K Tb W0 ft))
    (hk : ∀ (s : Shared) (H : Hp) (C : Addr) (cl : List (Str × Addr)) (fp : List Addr), PE (X.blk s H scope (compEnvC scope cl C X.env) fp) kx (tD X.K Tb W0 fk))
    (hv : ∀ i ∈ t.ixs, i ∈ own.map (·.2) := by decide) (hs : ∀ x, foldedSetIterable iter X.env x = pure x := by intro _; rfl) : PE X (.DictComp kx (.Constant (.bool true) tj tpos) [⟨tg, iter, ifs, 0⟩] scope pos) (tD X.K Tb W (dDc fi t ft fk (own.map (·.2)))) :=
  (pe_dcT (Nat.lt_of_le_of_lt (Nat.le_add_right _ _) hr.u64) hc hN hi ok hg ht hk hs).by fun σ H Q h => dc_walk hv h
variable {a : Expr} {f : Dn} {pos : Pos}
theorem ft_isN {j pos'} (ha : PE X a (tD X.K Tb W f)) : PT X (.Compare a [.Is] [.Constant .none j pos'] pos) (tDT X.K Tb W (dAsB (dOne (fun d => .ok (.bool (isNone d))) f))) := (pt_cmp (pc_isN ha) rfl).by fun σ H Q h => by
  obtain ⟨H0, O0, O, ρ, st, h⟩ := h
  refine ⟨H0, O0, O, ρ, st, Post.then (f := fun d => R.ok (isNone d)) (Rl' := RlB) (Q' := Q) ?_ fun d v H1 e r k => ?_⟩
  · have e : (f ρ >>= fun d => R.ok (isNone d)) = dAsB (dOne (fun d => .ok (.bool (isNone d))) f) ρ := by
      show _ = ((f ρ >>= fun d => R.ok (PyData.bool (isNone d))) >>= asB)
      cases f ρ <;> rfl
    rw [e]; exact h
  · have : decide (v = .non) = isNone d := by cases r <;> simp [isNone, dkD, obD]
    rw [this]
    exact ⟨_, rfl, k _ H1 (Ext.refl _) rfl⟩
theorem ft_notN {j pos'} (ha : PE X a (tD X.K Tb W f)) : PT X (.Compare a [.IsNot] [.Constant .none j pos'] pos) (tDT X.K Tb W (dAsB (dOne (fun d => .ok (.bool (!isNone d))) f))) := (pt_cmp (pc_notN ha) rfl).by fun σ H Q h => by
  obtain ⟨H0, O0, O, ρ, st, h⟩ := h
  refine ⟨H0, O0, O, ρ, st, Post.then (f := fun d => R.ok (!isNone d)) (Rl' := RlB) (Q' := Q) ?_ fun d v H1 e r k => ?_⟩
  · have e : (f ρ >>= fun d => R.ok (!isNone d)) = dAsB (dOne (fun d => .ok (.bool (!isNone d))) f) ρ := by
      show _ = ((f ρ >>= fun d => R.ok (PyData.bool (!isNone d))) >>= asB)
      cases f ρ <;> rfl
    rw [e]; exact h
  · have : decide (v = .non) = isNone d := by cases r <;> simp [isNone, dkD, obD]
    rw [this]
    exact ⟨_, rfl, k _ H1 (Ext.refl _) rfl⟩
end
end PD
set_option Elab.async false
set_option linter.all false
set_option maxRecDepth 100000
set_option maxHeartbeats 1000000
namespace PD
open PySem PySem.Spec PyProof.Rows L2
end PD
set_option Elab.async false
set_option linter.all false
set_option maxRecDepth 100000
set_option maxHeartbeats 1000000
namespace PD
open PySem PySem.Spec PyProof.Rows L2
/-- t <= u: u does not come before t -/
def leT (ns ms : List Int) : Bool := !(HT.lexLt ms ns)
end PD
set_option Elab.async false
set_option linter.all false
set_option maxRecDepth 100000
set_option maxHeartbeats 1000000
namespace PD
open PySem PySem.Spec PyProof.Rows L2
def SqX (K : PySem.W.Frag) (H : Hp) (tp : Bool) (a : Addr) (xs : List V) : Prop := match tp with
  | true => SqT K H a xs
  | false => SqL K H a xs
def ItX (h : Heap) (tp : Bool) (it a : Addr) (i : Nat) : Prop := match tp with
  | true => h.IsTupleIter it a i
  | false => h.IsListIter it a i
def PlX (h : Heap) (tp : Bool) (a : Addr) (its : Array Value) : Prop := match tp with
  | true => h.IsTuple a its
  | false => h.IsList a its
def itO (tp : Bool) (a : Addr) : Obj := match tp with
  | true => { cls := .type "tuple_iterator", data := .fields #[.ref a, .int 0 0] }
  | false => { cls := .type "list_iterator", data := .fields #[.ref a, .int 0 0] }
theorem drawsX {prog : Program} {w : World} {A : Around} (hh : A.handled = none) (tp : Bool) {it a : Addr} (ne : a ≠ it) (its : Array Value) :
    Draws prog w A it [it, a] its.size (fun i v => its[i]? = some v) (fun i h => ItX h tp it a i ∧ PlX h tp a its) := by
  cases tp with
  | true => exact Draws.tuple hh it a ne its
  | false => exact Draws.list hh it a ne its
theorem beginsX (tp : Bool) (a : Addr) (its : Array Value) : Begins (.ref a) (itO tp a) (fun h => PlX h tp a its) := by
  cases tp with
  | true => exact begins_tuple a its
  | false => exact begins_list a its
theorem itX_new {h : Heap} {tp : Bool} {it a : Addr} (e : h.get? it = some (itO tp a)) : ItX h tp it a 0 := by
  cases tp with
  | true => exact ⟨_, e, rfl, rfl⟩
  | false => exact ⟨_, e, rfl, rfl⟩
theorem ItX.obj {h : Heap} {tp : Bool} {it a : Addr} {i : Nat} (x : ItX h tp it a i) : ∃ o, h.get? it = some o ∧ ∀ v, o.data ≠ .cell v := by
  cases tp with
  | true =>
    obtain ⟨o, e, _, d⟩ := x
    exact ⟨o, e, fun v q => by rw [d] at q; cases q⟩
  | false =>
    obtain ⟨o, e, _, d⟩ := x
    exact ⟨o, e, fun v q => by rw [d] at q; cases q⟩
theorem ItX.at {h h' : Heap} {tp : Bool} {it a : Addr} {i : Nat} (x : ItX h tp it a i) (e : ∀ o, h.get? it = some o → h'.get? it = some o) : ItX h' tp it a i := by
  cases tp with
  | true => exact Heap.IsTupleIter.at x e
  | false => exact Heap.IsListIter.at x e
section
variable {X : Cx} {pins : List (Addr × Obj)} {σ : L2.St} {H : Hp} {s : Shared} {tp : Bool} {a : Addr} {xs ys : List V}
theorem sqX_read (I : Inv X pins σ H s) (h : SqX X.K H tp a xs) : ∃ its : List Value, Vals xs its ∧ PlX s.heap tp a its.toArray := by
  cases tp with
  | true =>
    obtain ⟨its, rv, p, _⟩ := I.tuple h
    exact ⟨its, rv, p⟩
  | false =>
    obtain ⟨its, rv, p, _⟩ := I.list h
    exact ⟨its, rv, p.isList⟩
theorem sqX_inj (I : Inv X pins σ H s) (h : SqX X.K H tp a xs) (h' : SqX X.K H tp a ys) : xs = ys := by
  cases tp with
  | true => exact I.tuple_inj h h'
  | false => exact I.list_inj h h'
theorem PlX.lt {h : Heap} {its : Array Value} (p : PlX h tp a its) : a < h.objs.size := by
  cases tp with
  | true => obtain ⟨_, e, _⟩ := p; exact Heap.lt_size e
  | false => obtain ⟨_, e, _⟩ := p; exact Heap.lt_size e
theorem SqX.step {K : PySem.W.Frag} {G G' : Hp} (s : Sub G G') (h : SqX K G tp a xs) : SqX K G' tp a xs := by
  cases tp with
  | true => exact s.sqT h
  | false => exact s.sqL h
end
def Ige (K : PySem.W.Frag) (tp : Bool) (a : Addr) (k : Int) : It where
  go i H := ∃ (xs : List V) (x : V), SqX K H tp a xs ∧ xs[i]? = some x
  yld i H v H' := ∃ T x, v = .ref T ∧ H T = none ∧ H' = upd H T (.tup [.int (k + (i : Nat)), x]) ∧ ∀ xs, SqX K H tp a xs → xs[i]? = some x
  stop i H := ∃ xs : List V, SqX K H tp a xs ∧ xs.length = i
theorem turn_enumX {P : Program} {w : World} {K : PySem.W.Frag} {elts : List Expr} {kk : Nat} {tpos : Pos} {tp : Bool} {k : Int} {a e it : Addr} (n1 : e ≠ it) (n2 : a ≠ it) (n3 : a ≠ e) :
    Turn P w K (.Tuple elts kk tpos) (Ige K tp a k) [e, it] e (fun i h => (∃ old, IsEnum h e it (k + (i : Nat)) old) ∧ ItX h tp it a i) where
  mem := List.mem_cons_self
  obj := fun i h ⟨⟨old, he⟩, hi⟩ b hb => by
    rcases List.mem_cons.mp hb with z | z
    · subst z
      exact ⟨_, he, fun v q => nomatch q⟩
    · cases List.mem_singleton.mp z
      exact hi.obj
  keep := fun i h h' ⟨⟨old, he⟩, hi⟩ q => ⟨⟨old, q e List.mem_cons_self _ he⟩, hi.at fun o z => q it (List.mem_cons_of_mem _ List.mem_cons_self) o z⟩
  item := by
    intro X hP hw hK hc i pins s σ H E I hf st hg
    cases hP; cases hw; cases hK
    obtain ⟨⟨old, he⟩, hit⟩ := st
    obtain ⟨xs, x, hq, hx⟩ := hg
    obtain ⟨its, rv, p⟩ := sqX_read I hq
    obtain ⟨u, hu, ru⟩ := rv.get hx
    have big : e < s.heap.objs.size := Heap.lt_size he
    have lti : i < its.toArray.size := by
      obtain ⟨z, _⟩ := List.getElem?_eq_some_iff.mp hu
      simpa using z
    have D := drawsX (prog := X.prog) (w := X.w) (A := X.A.in1) (I.ok.hd hc) tp n2 its.toArray
    refine wpAny_pyNext_enum_itemC D he ⟨hit, p⟩ lti n1 (by simp only [List.mem_cons, List.not_mem_nil, or_false, not_or]; exact ⟨n1, n3.symm⟩) fun y h1 tk hy ho st1 hT hsz hk => ?_
    have ey : y = u := by
      have hy : its.toArray[i]? = some y := hy
      rw [List.getElem?_toArray, hu] at hy
      exact (Option.some.inj hy).symm
    subst ey
    refine ⟨_, rfl, wpAny_letOwnedTupleGo_enum (s := { s with heap := h1, toks := tk + 1 }) ho fun h2 he2 sb => ?_⟩
    have hT2 : h2.get? s.heap.objs.size = some { cls := .type "tuple", data := .seq #[.int (k + (i : Nat)) tk, y] } := (sb.2 _ (Nat.ne_of_gt big)).trans hT
    have fresh : ObjOk X.prog X.w (upd H s.heap.objs.size (.tup [.int (k + (i : Nat)), x])) h2 s.heap.objs.size (.tup [.int (k + (i : Nat)), x]) :=
      ⟨by show 2 ≤ sizeLine; rw [sizeLine_eq]; decide, [.int (k + (i : Nat)) tk, y], .cons ⟨_, rfl⟩ (.cons ru .nil), ⟨_, hT2, rfl, _, rfl⟩⟩
    have I1 : Inv X pins σ (upd H s.heap.objs.size (.tup [.int (k + (i : Nat)), x])) { s with heap := h2, toks := tk + 1 } :=
      I.turnedNew (ch := [e, it]) (fun b ob hb q => by
        rw [List.mem_cons, List.mem_singleton, not_or] at hb
        exact (sb.2 b hb.1).trans (hk b ob hb.1 hb.2 q)) hf (Nat.le_refl _) fresh
    refine ⟨.ref s.heap.objs.size, _, I1, rfl, ⟨_, x, rfl, I.hok.fresh (Nat.le_refl _), rfl, fun ys hy => by rw [sqX_inj I hy hq]; exact hx⟩, ⟨⟨y, ?_⟩, st1.1.at fun o q => (sb.2 it n1.symm).trans q⟩, fun b hb => ?_⟩
    · rw [show k + ((i + 1 : Nat) : Int) = k + (i : Int) + 1 by omega]
      exact he2
    · have hb2 : b < s.heap.objs.size := by
        rcases List.mem_cons.mp hb with z | z
        · rw [z]; exact big
        · rw [List.mem_singleton.mp z]
          obtain ⟨o, q, _⟩ := hit.obj
          exact Heap.lt_size q
      rw [upd_ne (Nat.ne_of_lt hb2)]
      exact (hf b hb).1
  done := by
    intro X hP hw hK hc i pins s σ H E I hf st hg
    cases hP; cases hw; cases hK
    obtain ⟨⟨old, he⟩, hit⟩ := st
    obtain ⟨xs, hq, hx⟩ := hg
    obtain ⟨its, rv, p⟩ := sqX_read I hq
    have D := drawsX (prog := X.prog) (w := X.w) (A := X.A.in1) (I.ok.hd hc) tp n2 its.toArray
    have el : i = its.toArray.size := by
      have := rv.length
      simp
      omega
    subst el
    obtain ⟨f0, f1, f2, f3, f4, f5⟩ := hf it (List.mem_cons_of_mem _ List.mem_cons_self)
    exact wpAny_pyNext_enum_endD D he ⟨hit, p⟩ fun h' eb => ⟨rfl, I.turned (t' := s.toks) (fun b o hb q => eb b o hb q) f0 f1 f3 f4 f5⟩
  self := fun A i s Q E ⟨⟨_, he⟩, _⟩ h => wpAny_pyIter_enum he h
theorem enum_new1 {v : Value} {o : Obj} {Hq : Heap → Prop} (B : Begins v o Hq) :
    Meets (Builtin.«enumerate.__new__» ⟨[.type "enumerate", v], []⟩) (fun _ R s => Hq s.heap ∧
      R (.ok (.ret (.ref (s.heap.push o).objs.size))) { s with heap := (s.heap.push o).push { cls := .type "enumerate", data := .fields #[.none, .bool false, .ref s.heap.objs.size, rawInt 0, .none, .none] } }) :=
  .of_wp fun prog w A R s h => by
    obtain ⟨hp, g, d, tk, os⟩ := s
    obtain ⟨h1, h⟩ := h
    have hsub := sub_enumerate
    have q1 : ∀ {A1 : Around} {E : Value → Shared → Prop} {Q : Value → Shared → Prop}, Q (.ref hp.objs.size) ⟨hp.push o, g, d, tk, os⟩ → wpAny (model prog w) A1 (pyIter v) Q E ⟨hp, g, d, tk, os⟩ :=
      fun q => B.iter prog w _ _ ⟨hp, g, d, tk, os⟩ _ h1 q
    wp_walk using q1
    refine wpAny_stack_any fun st => wpAny_pure ?_
    split
    · rename_i c _ _ _ _ _
      cases (c == Value.type "enumerate") <;> wp_walk using q1 <;> exact ⟨_, rfl, h⟩
    · wp_walk using q1
      exact ⟨_, rfl, h⟩
theorem enum_begins1 {prog : Program} {w : World} {A : Around} {E : Value → Shared → Prop} {s : Shared} {v : Value} {o : Obj} {Hq : Heap → Prop} {Q : Value → Shared → Prop} (B : Begins v o Hq) (h1 : Hq s.heap)
    (h : ∀ h', IsEnum h' (s.heap.objs.size + 1) s.heap.objs.size 0 .none → h'.get? s.heap.objs.size = some o → (∀ b o, s.heap.get? b = some o → h'.get? b = some o) → Q (.ref (s.heap.objs.size + 1)) { s with heap := h' }) :
    wpAny (model prog w) A (call (.type "enumerate") [v]) Q E s := by
  refine callType_new F.called_enumerate (by decide) (F.typeCall_enumerate_1 _) (F.newCall_enumerate_1 _) (fun obj => F.args_object_init_2 obj _) F.entry_enumerate_new (enum_new1 B) ⟨h1, ?_⟩
  have hz : (s.heap.push o).objs.size = s.heap.objs.size + 1 := Heap.size_push ..
  show _ ∧ _
  rw [hz]
  have he : IsEnum ((s.heap.push o).push { cls := .type "enumerate", data := .fields #[.none, .bool false, .ref s.heap.objs.size, rawInt 0, .none, .none] }) (s.heap.objs.size + 1) s.heap.objs.size 0 .none := by
    have := Heap.get?_push_size (s.heap.push o) (o := { cls := .type "enumerate", data := .fields #[.none, .bool false, .ref s.heap.objs.size, rawInt 0, .none, .none] }) rfl
    rw [hz] at this
    exact this
  exact ⟨⟨_, he, rfl⟩, h _ he (Heap.get?_push_of_some _ (Heap.get?_push_size _ B.free)) fun b o x => Heap.get?_push_of_some _ (Heap.get?_push_of_some _ x)⟩
def iEnumX (K : PySem.W.Frag) (ta : TA) : TI := fun σ H R => ta σ H fun vs H1 => ∃ tp a xs, vs = [.ref a] ∧ SqX K H1 tp a xs ∧ R (Ige K tp a 0) H1
theorem pi_enumX {X : Cx} {e : Expr} {ta : TA} {p pos tpos : Pos} {elts : List Expr} {kk : Nat} (hg : Gl X "enumerate") (hm : X.mg "enumerate" = none) (ha : PA X [e] ta) (hs : starEach [e] X.env = [(false, eval e X.env)] := by rfl) :
    PI X (.Tuple elts kk tpos) (.Call (.Name "enumerate" p) [e] [] pos) (iEnumX X.K ta) := by
  refine ⟨fun pins s σ H R I h => Call_ (ld_blt I hg hm boot_enumerate (PyProof.Rows.callWith_type1 (thn (ha.run pos pins s σ H _ I h) fun us s1 ⟨vs, H1, I1, r1, q1⟩ => ?_) hs rfl))⟩
  obtain ⟨tp, a, xs, rfl, hq, q⟩ := q1
  cases r1 with
  | cons r rr =>
    cases rr
    cases r
    obtain ⟨its, rv, p'⟩ := sqX_read I1 hq
    have la := p'.lt
    refine enum_begins1 (beginsX tp a its.toArray) p' fun h' he hit hk => wpAny_pyIter_enum he ?_
    have I2 : Inv X pins σ H1 { s1 with heap := h' } := I1.kept (t' := s1.toks) hk
    refine ⟨s1.heap.objs.size + 1, [s1.heap.objs.size + 1, s1.heap.objs.size], _, _, H1, rfl, I2, turn_enumX (e := s1.heap.objs.size + 1) (it := s1.heap.objs.size) (k := 0) (Nat.succ_ne_self _) (Nat.ne_of_lt la) (Nat.ne_of_lt (Nat.lt_succ_of_lt la)), ⟨⟨.none, he⟩, itX_new hit⟩, fun b hb => ?_, q⟩
    have hle : s1.heap.objs.size ≤ b := by
      rcases List.mem_cons.mp hb with z | z
      · rw [z]; exact Nat.le_succ _
      · rw [List.mem_singleton.mp z]; exact Nat.le_refl _
    exact I1.fpOk hle (I1.hok.fresh hle)
def enumF (k : Int) : List PyData → List PyData
  | [] => []
  | d :: ds => .tuple [.int k, d] :: enumF (k + 1) ds
theorem enumF_len (k : Int) : ∀ ds : List PyData, (enumF k ds).length = ds.length
  | [] => rfl
  | d :: ds => by simp [enumF, enumF_len (k + 1) ds]
theorem enumF_get : ∀ {k : Int} {ds : List PyData} {i : Nat} {d : PyData}, ds[i]? = some d → (enumF k ds)[i]? = some (.tuple [.int (k + (i : Nat)), d])
  | k, d :: ds, 0, e, h => by
    cases h
    simp [enumF]
  | k, d :: ds, i + 1, e, h => by
    have := enumF_get (k := k + 1) (ds := ds) (i := i) (d := e) (by simpa using h)
    simp only [enumF, List.getElem?_cons_succ, this]
    congr 4
    omega
  | k, [], i, e, h => by simp at h
section
variable {K : PySem.W.Frag} {G H H' H'' : Hp} {O O' : List Addr} {a : Addr} {ds : List PyData} {xs : List V} {tp : Bool}
theorem itd_enum {k : Int} (h : SqX K G tp a xs) (z : ds.length ≤ sizeLine) (r : RpAll K G xs ds) : ItD K G (Ige K tp a k) (enumF k ds) where
  len := by rw [enumF_len]; exact z
  go := fun i H' e hi => by
    rw [enumF_len] at hi
    have hx : i < xs.length := by rw [r.length]; exact hi
    exact ⟨xs, xs[i], h.step (Sub.ext e), List.getElem?_eq_getElem hx⟩
  yld := fun i H' O' x H'' e n al hi y => by
    obtain ⟨T, v, rfl, nT, rfl, y⟩ := y
    obtain ⟨d, h1, h2⟩ := r.get (y xs (h.step (Sub.ext e)))
    refine ⟨Ext.new nT, _, enumF_get h1, .tup (.of ?_) (by show 2 ≤ sizeLine; rw [sizeLine_eq]; decide) (.cons (.int _) (.cons (h2.mono ?_) .nil))⟩
    · rw [hide_out fun m => al T m nT, upd_same]
    · exact ((e.trans (Ext.new nT)).under n)
  stop := fun H' e => ⟨xs, h.step (Sub.ext e), by rw [enumF_len]; exact r.length⟩
end
def enumA : List PyData → R (List PyData)
  | [d] => items d >>= fun ds => .ok (enumF 0 ds)
  | _ => .bad
def dEnum (g : DnL) : DnL := fun ρ => g ρ >>= enumA
theorem rp_items {K : PySem.W.Frag} {G : Hp} {v : V} {d : PyData} {ds : List PyData} (r : Rp K G v d) (h : items d = .ok ds) : ∃ tp a xs, v = .ref a ∧ SqX K G tp a xs ∧ ds.length ≤ sizeLine ∧ RpAll K G xs ds := by
  unfold items at h
  split at h
  · cases h
    cases r with
    | lst h1 z1 a1 => exact ⟨false, _, _, rfl, h1, z1, a1⟩
  · cases h
    cases r with
    | tup h1 z1 a1 => exact ⟨true, _, _, rfl, h1, z1, a1⟩
  · cases h
theorem items_no {d : PyData} {x : Ex} : items d ≠ .exc x := by unfold items; split <;> exact fun h => by cases h
theorem fi_enum {X : Cx} {Tb : List Addr} {W : WX} {e : Expr} {g : DnL} {p pos tpos : Pos} {elts : List Expr} {kk : Nat} (hg : Gl X "enumerate") (hm : X.mg "enumerate" = none) (ha : PA X [e] (tDs X.K Tb W g)) (hs : starEach [e] X.env = [(false, eval e X.env)] := by rfl) :
    PI X (.Tuple elts kk tpos) (.Call (.Name "enumerate" p) [e] [] pos) (tI X.K Tb W (dEnum g)) := (pi_enumX hg hm ha hs).by fun σ H R ⟨H0, O0, O, ρ, st, h⟩ => ⟨H0, O0, O, ρ, st, by
  refine Post.then h fun d v H1 ex r k => ?_
  unfold enumA at k
  split at k
  · rename_i d0
    cases r with
    | cons r1 r2 =>
      cases r2
      cases hi : items d0 with
      | bad => rw [hi] at k; exact k.elim
      | exc x => exact absurd hi items_no
      | ok ds =>
        rw [hi] at k
        obtain ⟨tp, a, xs, rfl, h1, z1, a1⟩ := rp_items r1 hi
        exact ⟨tp, a, xs, rfl, h1.step Sub.unhide, k _ H1 (Ext.refl _) (itd_enum h1 z1 a1)⟩
  · exact k.elim⟩
def Igz (K : PySem.W.Frag) (t1 t2 : Bool) (a b : Addr) : It where
  go i H := ∃ (xs ys : List V) (x y : V), SqX K H t1 a xs ∧ SqX K H t2 b ys ∧ xs[i]? = some x ∧ ys[i]? = some y
  yld i H v H' := ∃ T x y, v = .ref T ∧ H T = none ∧ H' = upd H T (.tup [x, y]) ∧ (∀ xs, SqX K H t1 a xs → xs[i]? = some x) ∧ ∀ ys, SqX K H t2 b ys → ys[i]? = some y
  stop i H := ∃ xs ys : List V, SqX K H t1 a xs ∧ SqX K H t2 b ys ∧ i = min xs.length ys.length
theorem turn_zipX {P : Program} {w : World} {K : PySem.W.Frag} {elts : List Expr} {kk : Nat} {tpos : Pos} {t1 t2 : Bool} {a b z TI TO i1 i2 : Addr} (S : ZipSep2 z TI TO i1 i2 [i1, a] [i2, b]) (n1 : a ≠ i1) (n2 : b ≠ i2) :
    Turn P w K (.Tuple elts kk tpos) (Igz K t1 t2 a b) [z, TI, TO, i1, i2] z (fun i h => IsZip h z TI TO .none ∧ IsTupOf2 h TI (.ref i1) (.ref i2) ∧ (∃ x y, IsTupOf2 h TO x y) ∧ ItX h t1 i1 a i ∧ ItX h t2 i2 b i) where
  mem := List.mem_cons_self
  obj := fun i h ⟨hz, hTI, ⟨x, y, hTO⟩, h1, h2⟩ c hc => by
    simp only [List.mem_cons, List.not_mem_nil, or_false] at hc
    rcases hc with q | q | q | q | q <;> subst q
    · exact ⟨_, hz, fun v q => nomatch q⟩
    · exact ⟨_, hTI, fun v q => nomatch q⟩
    · exact ⟨_, hTO, fun v q => nomatch q⟩
    · exact h1.obj
    · exact h2.obj
  keep := fun i h h' ⟨hz, hTI, ⟨x, y, hTO⟩, h1, h2⟩ k =>
    ⟨k z (by simp) _ hz, k TI (by simp) _ hTI, ⟨x, y, k TO (by simp) _ hTO⟩, h1.at fun o q => k i1 (by simp) o q, h2.at fun o q => k i2 (by simp) o q⟩
  item := by
    intro X hP hw hK hc i pins s σ H E I hf st hg
    cases hP; cases hw; cases hK
    obtain ⟨hz, hTI, ⟨x0, y0, hTO⟩, h1, h2⟩ := st
    obtain ⟨xs, ys, x, y, hqx, hqy, hx, hy⟩ := hg
    obtain ⟨its, rv, p⟩ := sqX_read I hqx
    obtain ⟨its2, rv2, p2⟩ := sqX_read I hqy
    obtain ⟨u, hu, ru⟩ := rv.get hx
    obtain ⟨u2, hu2, ru2⟩ := rv2.get hy
    have zl : z < s.heap.objs.size := Heap.lt_size hz
    have D1 := drawsX (prog := X.prog) (w := X.w) (A := X.A.in1) (I.ok.hd hc) t1 n1 its.toArray
    have D2 := drawsX (prog := X.prog) (w := X.w) (A := X.A.in1) (I.ok.hd hc) t2 n2 its2.toArray
    have l1 : i < its.toArray.size := by
      obtain ⟨q, _⟩ := List.getElem?_eq_some_iff.mp hu
      simpa using q
    have l2 : i < its2.toArray.size := by
      obtain ⟨q, _⟩ := List.getElem?_eq_some_iff.mp hu2
      simpa using q
    refine wpAny_pyNext_zipD2_item S D1 D2 hz hTI hTO ⟨h1, p⟩ ⟨h2, p2⟩ l1 l2 fun v v2 h' tk e1 e2 z' TO' s1 s2 hT hsz hk => ?_
    have ev : v = u := by
      have e1 : its.toArray[i]? = some v := e1
      rw [List.getElem?_toArray, hu] at e1
      exact (Option.some.inj e1).symm
    have ev2 : v2 = u2 := by
      have e2 : its2.toArray[i]? = some v2 := e2
      rw [List.getElem?_toArray, hu2] at e2
      exact (Option.some.inj e2).symm
    subst ev ev2
    refine ⟨_, rfl, wpAny_letOwnedTupleGo_zip (s := { s with heap := h', toks := tk }) z' fun h'' z'' sb => ?_⟩
    have hT2 : h''.get? s.heap.objs.size = some { cls := .type "tuple", data := .seq #[v, v2] } := (sb.2 _ (Nat.ne_of_gt zl)).trans hT
    have fresh : ObjOk X.prog X.w (upd H s.heap.objs.size (.tup [x, y])) h'' s.heap.objs.size (.tup [x, y]) :=
      ⟨by show 2 ≤ sizeLine; rw [sizeLine_eq]; decide, [v, v2], .cons ru (.cons ru2 .nil), ⟨_, hT2, rfl, _, rfl⟩⟩
    have far : ∀ c o, c ∉ [z, TI, TO, i1, i2] → s.heap.get? c = some o → h''.get? c = some o := fun c o hb q => by
      simp only [List.mem_cons, List.not_mem_nil, or_false, not_or] at hb
      exact (sb.2 c hb.1).trans (hk c o hb.1 hb.2.2.1 hb.2.2.2.1 hb.2.2.2.2 q)
    have I1 : Inv X pins σ (upd H s.heap.objs.size (.tup [x, y])) { s with heap := h'', toks := tk } := I.turnedNew (ch := [z, TI, TO, i1, i2]) far hf (Nat.le_refl _) fresh
    have iz1 : i1 ≠ z := fun q => S.zf1 (by rw [← q]; exact List.mem_cons_self)
    have iz2 : i2 ≠ z := fun q => S.zf2 (by rw [← q]; exact List.mem_cons_self)
    refine ⟨.ref s.heap.objs.size, _, I1, rfl, ⟨_, x, y, rfl, I.hok.fresh (Nat.le_refl _), rfl, fun l hl => by rw [sqX_inj I hl hqx]; exact hx, fun l hl => by rw [sqX_inj I hl hqy]; exact hy⟩, ⟨z'', ?_, ⟨v, v2, ?_⟩, ?_, ?_⟩, fun c hcm => ?_⟩
    · exact (sb.2 _ S.TIz).trans (hk _ _ S.TIz S.TITO S.TIi1 S.TIi2 hTI)
    · exact (sb.2 _ S.TOz).trans TO'
    · exact s1.1.at fun o q => (sb.2 i1 iz1).trans q
    · exact s2.1.at fun o q => (sb.2 i2 iz2).trans q
    · have lt : c < s.heap.objs.size := by
        simp only [List.mem_cons, List.not_mem_nil, or_false] at hcm
        rcases hcm with q | q | q | q | q <;> subst q
        · exact zl
        · exact Heap.lt_size hTI
        · exact Heap.lt_size hTO
        · obtain ⟨o, q, _⟩ := h1.obj; exact Heap.lt_size q
        · obtain ⟨o, q, _⟩ := h2.obj; exact Heap.lt_size q
      rw [upd_ne (Nat.ne_of_lt lt)]
      exact (hf c hcm).1
  done := by
    intro X hP hw hK hc i pins s σ H E I hf st hg
    cases hP; cases hw; cases hK
    obtain ⟨hz, hTI, ⟨x0, y0, hTO⟩, h1, h2⟩ := st
    obtain ⟨xs, ys, hqx, hqy, hend⟩ := hg
    obtain ⟨its, rv, p⟩ := sqX_read I hqx
    obtain ⟨its2, rv2, p2⟩ := sqX_read I hqy
    have l1 := rv.length
    have l2 := rv2.length
    have D1 := drawsX (prog := X.prog) (w := X.w) (A := X.A.in1) (I.ok.hd hc) t1 n1 its.toArray
    have D2 := drawsX (prog := X.prog) (w := X.w) (A := X.A.in1) (I.ok.hd hc) t2 n2 its2.toArray
    refine wpAny_pyNext_zipD2_end S D1 D2 hz hTI hTO ⟨h1, p⟩ ⟨h2, p2⟩ (by simp; omega) (by simp; omega) (by simp; omega) fun h' tk hk => ⟨rfl, I.turnedL (t' := tk) (ch := [z, TI, TO, i1, i2]) (fun c o hb q => ?_) hf⟩
    simp only [List.mem_cons, List.not_mem_nil, or_false, not_or] at hb
    exact hk c o hb.1 hb.2.2.1 hb.2.2.2.1 hb.2.2.2.2 q
  self := fun A i s Q E st h => wpAny_pyIter_zip st.1 h
def iZipX (K : PySem.W.Frag) (ta : TA) : TI := fun σ H R => ta σ H fun vs H1 => ∃ t1 t2 a b xs ys, vs = [.ref a, .ref b] ∧ SqX K H1 t1 a xs ∧ SqX K H1 t2 b ys ∧ R (Igz K t1 t2 a b) H1
theorem pi_zipX {X : Cx} {e e2 : Expr} {ta : TA} {p pos tpos : Pos} {elts : List Expr} {kk : Nat} (hg : Gl X "zip") (hm : X.mg "zip" = none) (ha : PA X [e, e2] ta)
    (hs : starEach [e, e2] X.env = (false, eval e X.env) :: starEach [e2] X.env := by rfl) (hpl : (backTo pos (starEach [e2] X.env)).any (·.1) = false := by rfl) :
    PI X (.Tuple elts kk tpos) (.Call (.Name "zip" p) [e, e2] [] pos) (iZipX X.K ta) := by
  refine ⟨fun pins s σ H R I h => Call_ (ld_blt I hg hm PyProof.Rows.boot_zip (PyProof.Rows.callWith_type1 (thn (ha.run pos pins s σ H _ I h) fun us s1 ⟨vs, H1, I1, r1, q1⟩ => ?_) hs hpl))⟩
  obtain ⟨t1, t2, a, b, xs, ys, rfl, hqx, hqy, q⟩ := q1
  cases r1 with
  | cons r rr =>
    cases rr with
    | cons r' rr =>
      cases rr
      cases r
      cases r'
      obtain ⟨its, rv, p1⟩ := sqX_read I1 hqx
      obtain ⟨its2, rv2, p2⟩ := sqX_read I1 hqy
      have la := p1.lt
      have lb := p2.lt
      have S : ZipSep2 (s1.heap.objs.size + 4) (s1.heap.objs.size + 2) (s1.heap.objs.size + 3) s1.heap.objs.size (s1.heap.objs.size + 1) [s1.heap.objs.size, a] [s1.heap.objs.size + 1, b] :=
        zip_sep2 (fun c hc => by rw [List.mem_singleton.mp hc]; exact la) (fun c hc => by rw [List.mem_singleton.mp hc]; exact lb)
      refine zip_begins2 (beginsX t1 a its.toArray) (beginsX t2 b its2.toArray) p1 p2 fun h' hz hTI hTO g1 g2 hsz hk => wpAny_pyIter_zip hz ?_
      have I2 : Inv X pins σ H1 { s1 with heap := h' } := I1.kept (t' := s1.toks) hk
      refine ⟨s1.heap.objs.size + 4, [s1.heap.objs.size + 4, s1.heap.objs.size + 2, s1.heap.objs.size + 3, s1.heap.objs.size, s1.heap.objs.size + 1], _, _, H1, rfl, I2, turn_zipX S (Nat.ne_of_lt la) (Nat.ne_of_lt (Nat.lt_succ_of_lt lb)), ⟨hz, hTI, ⟨_, _, hTO⟩, itX_new g1, itX_new g2⟩, fun c hcm => ?_, q⟩
      simp only [List.mem_cons, List.not_mem_nil, or_false] at hcm
      have hle : s1.heap.objs.size ≤ c := by
        rcases hcm with q | q | q | q | q <;> rw [q] <;> first | exact Nat.le_add_right _ _ | exact Nat.le_refl _
      exact I1.fpOk hle (I1.hok.fresh hle)
def zipD : List PyData → List PyData → List PyData
  | d :: ds, e :: es => .tuple [d, e] :: zipD ds es
  | _, _ => []
theorem zipD_len : ∀ ds es : List PyData, (zipD ds es).length = min ds.length es.length
  | [], es => by simp [zipD]
  | d :: ds, [] => by simp [zipD]
  | d :: ds, e :: es => by simp [zipD, zipD_len ds es, Nat.succ_min_succ]
theorem zipD_get : ∀ {ds es : List PyData} {i : Nat} {d e : PyData}, ds[i]? = some d → es[i]? = some e → (zipD ds es)[i]? = some (.tuple [d, e])
  | d :: ds, e :: es, 0, _, _, h, k => by cases h; cases k; rfl
  | d :: ds, e :: es, i + 1, _, _, h, k => by
    simp only [zipD, List.getElem?_cons_succ]
    exact zipD_get (by simpa using h) (by simpa using k)
  | [], es, i, _, _, h, k => by simp at h
  | d :: ds, [], i, _, _, h, k => by simp at k
theorem itd_zip {K : PySem.W.Frag} {G : Hp} {t1 t2 : Bool} {a b : Addr} {xs ys : List V} {ds es : List PyData} (h1 : SqX K G t1 a xs) (h2 : SqX K G t2 b ys) (z : ds.length ≤ sizeLine) (r1 : RpAll K G xs ds) (r2 : RpAll K G ys es) : ItD K G (Igz K t1 t2 a b) (zipD ds es) where
  len := by rw [zipD_len]; omega
  go := fun i H' e hi => by
    rw [zipD_len] at hi
    have hx : i < xs.length := by rw [r1.length]; omega
    have hy : i < ys.length := by rw [r2.length]; omega
    exact ⟨xs, ys, xs[i], ys[i], h1.step (Sub.ext e), h2.step (Sub.ext e), List.getElem?_eq_getElem hx, List.getElem?_eq_getElem hy⟩
  yld := fun i H' O' x H'' e n al hi y => by
    obtain ⟨T, v, v2, rfl, nT, rfl, y1, y2⟩ := y
    obtain ⟨d, g1, g2⟩ := r1.get (y1 xs (h1.step (Sub.ext e)))
    obtain ⟨d2, g3, g4⟩ := r2.get (y2 ys (h2.step (Sub.ext e)))
    have sb := ((e.trans (Ext.new nT (o := .tup [v, v2]))).under n)
    refine ⟨Ext.new nT, _, zipD_get g1 g3, .tup (.of ?_) (by show 2 ≤ sizeLine; rw [sizeLine_eq]; decide) (.cons (g2.mono sb) (.cons (g4.mono sb) .nil))⟩
    rw [hide_out fun m => al T m nT, upd_same]
  stop := fun H' e => ⟨xs, ys, h1.step (Sub.ext e), h2.step (Sub.ext e), by rw [zipD_len, r1.length, r2.length]⟩
def zipA : List PyData → R (List PyData)
  | [d, e] => items d >>= fun ds => items e >>= fun es => .ok (zipD ds es)
  | _ => .bad
def dZip (g : DnL) : DnL := fun ρ => g ρ >>= zipA
theorem fi_zip {X : Cx} {Tb : List Addr} {W : WX} {e e2 : Expr} {g : DnL} {p pos tpos : Pos} {elts : List Expr} {kk : Nat} (hg : Gl X "zip") (hm : X.mg "zip" = none) (ha : PA X [e, e2] (tDs X.K Tb W g))
    (hs : starEach [e, e2] X.env = (false, eval e X.env) :: starEach [e2] X.env := by rfl) (hpl : (backTo pos (starEach [e2] X.env)).any (·.1) = false := by rfl) :
    PI X (.Tuple elts kk tpos) (.Call (.Name "zip" p) [e, e2] [] pos) (tI X.K Tb W (dZip g)) := (pi_zipX hg hm ha hs hpl).by fun σ H R ⟨H0, O0, O, ρ, st, h⟩ => ⟨H0, O0, O, ρ, st, by
  refine Post.then h fun d v H1 ex r k => ?_
  unfold zipA at k
  split at k
  · rename_i d0 e0
    cases r with
    | cons r1 r2 =>
      cases r2 with
      | cons r2 r3 =>
        cases r3
        cases hi : items d0 with
        | bad => rw [hi] at k; exact k.elim
        | exc x => exact absurd hi items_no
        | ok ds =>
          rw [hi] at k
          cases hj : items e0 with
          | bad => rw [hj] at k; exact k.elim
          | exc x => exact absurd hj items_no
          | ok es =>
            rw [hj] at k
            obtain ⟨tp, a, xs, rfl, h1, z1, a1⟩ := rp_items r1 hi
            obtain ⟨tp2, b, ys, rfl, h2, z2, a2⟩ := rp_items r2 hj
            exact ⟨tp, tp2, a, b, xs, ys, rfl, h1.step Sub.unhide, h2.step Sub.unhide, k _ H1 (Ext.refl _) (itd_zip h1 h2 z1 a1 a2)⟩
  · exact k.elim⟩
end PD
set_option Elab.async false
set_option linter.all false
set_option maxRecDepth 100000
set_option maxHeartbeats 1000000
namespace PD
open PySem PySem.Spec PyProof.Rows L2
def bTupR1 : PyData → R PyData
  | .int n => if rgOk 0 n = true then .ok (.tuple (lstRg 0 n)) else .bad
  | _ => .bad
section
variable {X : Cx} {Tb : List Addr} {W : WX} {a : Expr} {f : Dn} {p p2 pos pos2 : Pos}
theorem fd_tupR1 (hc : X.calm = true) (hl : Gl X "tuple") (ml : X.mg "tuple" = none) (hr : Gl X "range") (mr : X.mg "range" = none) (ha : PE X a (tD X.K Tb W f))
    (n1 : starEach [a] X.env = (false, eval a X.env) :: starEach [] X.env := by rfl) (n2 : starEach [.Call (.Name "range" p2) [a] [] pos2] X.env = (false, eval (.Call (.Name "range" p2) [a] [] pos2) X.env) :: starEach [] X.env := by rfl) :
    PE X (.Call (.Name "tuple" p) [.Call (.Name "range" p2) [a] [] pos2] [] pos) (tD X.K Tb W (dOne bTupR1 f)) :=
  (pe_tupRg hc hl ml (prg_1 hr mr ha n1) n2).by fun σ H Q ⟨H0, O0, O, ρ, st, h⟩ => ⟨H0, O0, O, ρ, st, by
    refine Post.then h fun d v H1 ex rv k => ?_
    unfold bTupR1 at k
    split at k
    · rename_i n
      cases rv
      split at k
      · rename_i z
        refine ⟨n, rfl, rgOk_ok z, fun q hq => ?_⟩
        have al := (st.step ex).al
        refine k _ _ (Ext.new hq) (.tup (.of ?_) (lstRg_len _ _ z) (rp_rg _ _))
        rw [hide_out (fun m => al q m hq)]
        exact upd_same
      · exact k.elim
    · exact k.elim⟩
end
structure LamS1 (sc scope : Scope) (x : Str) : Prop where
  kind : scope.kind = .function
  co : scope.isCoroutine = false
  gen : scope.isGenerator = false
  par : scope.names.lookup x = some .local
  cell : ∀ y ∈ scope.names, y.2 ≠ .cell
  loc : ∀ y ∈ scope.names, y.2 = .local → y.1 = x
  free : ∀ y ∈ scope.names, y.2 = .free → sc.names.lookup y.1 = some .cell ∨ sc.names.lookup y.1 = some .free
theorem LamS1.has {X : Cx} {scope : Scope} {x : Str} (L : LamS1 X.env.scope scope x) (ok : X.Ok) : ∀ y ∈ scope.names, y.2 = .free → ∃ c, X.env.cells.lookup y.1 = some c := fun y hy e => by
  rcases L.free y hy e with k | k
  · exact ok.has _ (.inl k)
  · exact ok.has _ (.inr k)
end PD
set_option Elab.async false
set_option linter.all false
set_option maxRecDepth 100000
set_option maxHeartbeats 1000000
namespace PD
open PySem PySem.Spec PyProof.Rows L2
theorem PlX.at {h h' : Heap} {tp : Bool} {a : Addr} {its : Array Value} (p : PlX h tp a its) (e : ∀ o, h.get? a = some o → h'.get? a = some o) : PlX h' tp a its := by
  cases tp with
  | true => exact Heap.IsTuple.at p e
  | false => exact Heap.IsList.at p e
end PD
set_option Elab.async false
set_option linter.all false
set_option maxRecDepth 100000
set_option maxHeartbeats 1000000
namespace PD
open PySem PySem.Spec PyProof.Rows L2
def lc2Go (t : Tg) (ft : DnB) (fi1 : DnL) (t1 : Tg) (ft1 : DnB) (fe : Dn) (vs1 : List Nat) (ρ : Rho) : List PyData → R (List PyData)
  | [] => .ok []
  | d :: ds => match t.set d ρ with
    | some ρ1 => nx (ft ρ1) fun b => if b = true then nx (fi1 ρ1) fun es => nx (lcGo t1 ft1 fe (wipeR ρ1 vs1) es) fun ys => nx (lc2Go t ft fi1 t1 ft1 fe vs1 ρ ds) fun zs => .ok (ys ++ zs) else lc2Go t ft fi1 t1 ft1 fe vs1 ρ ds
    | none => .bad
def dLc2 (fi : DnL) (t : Tg) (ft : DnB) (fi1 : DnL) (t1 : Tg) (ft1 : DnB) (fe : Dn) (vs vs1 : List Nat) : Dn := fun ρ => fi ρ >>= fun ds => nx (lc2Go t ft fi1 t1 ft1 fe vs1 (wipeR ρ vs) ds) fun ys => if ys.length ≤ sizeLine then .ok (.list ys) else .bad
theorem ext_past {Hb H H' : Hp} {D : Addr} (e : Ext Hb H) (n : Hb D = none) (pl : ∀ c q, H D ≠ some (LamX.CodeO c q)) (e2 : Ext (hide [D] H) H') : Ext Hb H' := by
  have out : ∀ b, b ≠ D → hide [D] H b = H b := fun b h => hide_out (by simpa using h)
  refine ⟨fun b o h t => ?_, fun b t => ?_, fun b h => ?_⟩
  · exact e2.keep b o (by rw [out b (ne_of_none h n)]; exact e.keep b o h t) t
  · have hb : b ≠ D := tabG_ne t fun ps q => by rw [n] at q; cases q
    exact e2.tab b ((e.tab b t).mono (fun ps h => by rw [out b hb]; exact h) fun c q h => by rw [out c fun z => pl c q (by rw [← z]; exact h)]; exact h)
  · have hb : b ≠ D := fun z => h (by rw [z]; exact n)
    exact e2.al b (by rw [out b hb]; exact e.al b h)
mutual
theorem tg_own {i : Nat} {s : Sl} (hs : s.Hold) : ∀ {t : Tg} {d : PyData} {ρ ρ1 : Rho}, ρ1[i]? = some (some s) → t.set d ρ = some ρ1 → ρ[i]? = some (some s)
  | .nm j, d, ρ, ρ1, h, e => by
    unfold Tg.set at e
    cases e
    by_cases hj : j = i
    · subst hj
      by_cases hl : j < ρ.length
      · rw [List.getElem?_set_self hl] at h; cases h; exact hs.elim
      · rw [List.getElem?_eq_none (by rw [List.length_set]; omega)] at h; cases h
    · rw [List.getElem?_set_ne hj] at h; exact h
  | .tp ts, d, ρ, ρ1, h, e => by
    unfold Tg.set at e
    split at e
    · exact tgs_own hs h e
    · cases e
theorem tgs_own {i : Nat} {s : Sl} (hs : s.Hold) : ∀ {ts : List Tg} {ds : List PyData} {ρ ρ1 : Rho}, ρ1[i]? = some (some s) → Tg.sets ts ds ρ = some ρ1 → ρ[i]? = some (some s)
  | [], [], ρ, ρ1, h, e => by
    unfold Tg.sets at e
    cases e
    exact h
  | t :: ts, d :: ds, ρ, ρ1, h, e => by
    unfold Tg.sets at e
    cases e1 : t.set d ρ with
    | none => rw [e1] at e; cases e
    | some ρ2 =>
      rw [e1] at e
      exact tg_own hs (tgs_own hs h e) e1
  | [], d :: ds, ρ, ρ1, h, e => by unfold Tg.sets at e; cases e
  | t :: ts, [], ρ, ρ1, h, e => by unfold Tg.sets at e; cases e
end
section
variable {K : PySem.W.Frag} {Tb : List Addr}
/-- the turns of the inner clause: what it makes goes behind acc0 at D -/
theorem in_turns {t : Tg} {ft : DnB} {fe : Dn} {vs : List Nat} {σ σB : L2.St} {ρ ρB : Rho} {H0 H1 : Hp} {O0 O : List Addr} {J : It} {D : Addr} {ds ys acc0 : List PyData} {l0 : List V} {Nx : Hp → Prop} (hv : ∀ i ∈ t.ixs, i ∈ vs) (mD : D ∈ O) (mD0 : D ∉ O0)
    (own : ∀ (i : Nat) (s : Sl), s.Hold → ρ[i]? = some (some s) → σ[i]? ≠ some (some (.ref D))) (ownB : ∀ (i : Nat) (s : Sl), s.Hold → ρB[i]? = some (some s) → σB[i]? ≠ some (some (.ref D)))
    (stA : St0 K Tb H0 O0 O H1 σ ρ) (stB : St0 K Tb H0 O0 O H1 σB ρB) (it : ItD K (hide O H1) J ds) (hys : lcGo t ft fe (wipeR ρ vs) ds = .ok ys) (hD0 : H1 D = some (.lst l0)) (r0 : RpAll K (hide O H1) l0 acc0) (zl : acc0.length + ys.length ≤ sizeLine)
    (fin : ∀ l H', St0 K Tb H0 O0 O H' σB ρB → Ext (hide [D] H1) H' → H' D = some (.lst l) → RpAll K (hide O H') l (acc0 ++ ys) → Nx H') :
    ∃ W1 : Nat → Nat → Hp → Prop, (∃ m, W1 0 m H1) ∧ ∀ j k H, W1 j k H → (J.stop j H ∧ Nx H) ∨ (J.go j H ∧ ∃ Nx1 : Hp → Prop, (∀ H', Nx1 H' → ∃ k', k' < k ∧ W1 (j + 1) k' H') ∧ ∀ x H', J.yld j H x H' → tG K Tb t x (L2.wipe σ vs) H' fun σ3 H5 => L2.wipe σ3 vs = L2.wipe σ vs ∧ tDT K Tb W0 ft σ3 H5 fun b H6 =>
      if b = true then tD K Tb W0 fe σ3 H6 fun y H7 => ∃ acc, H7 D = some (.lst acc) ∧ acc.length < sizeLine ∧ Nx1 (upd H7 D (.lst (acc ++ [y]))) else Nx1 H6) := by
  have stw := stA.wiped vs
  have ownW : ∀ (i : Nat) (s : Sl), s.Hold → (wipeR ρ vs)[i]? = some (some s) → (L2.wipe σ vs)[i]? ≠ some (some (.ref D)) := fun i xs hs h1 h2 => by
    obtain ⟨g1, g2⟩ := wipeR_some h1
    rw [wipe_out g2] at h2
    exact own i xs hs g1 h2
  have nO : ∀ b ∈ O, hide O H1 b = none := fun b hb => hide_in hb
  have eO : Ext (hide O H1) (hide [D] H1) := by
    have sub : ∀ b o, hide O H1 b = some o → hide [D] H1 b = some o := fun b o h => by
      obtain ⟨h1, h2⟩ := hide_some h
      rw [hide_out (by simp only [List.mem_singleton]; exact fun z => h1 (by rw [z]; exact mD))]
      exact h2
    refine ⟨fun b o h _ => sub b o h, fun b t => t.mono (fun ps h => sub b _ h) fun c q h => sub c _ h, fun b h => ?_⟩
    cases q : hide O H1 b with
    | none => exact absurd q h
    | some x => rw [sub b x q]; simp
  have nD : hide [D] H1 D = none := hide_in (by simp)
  refine ⟨fun i m H' => i ≤ ds.length ∧ m = ds.length - i ∧ ∃ l done rest, St0 K Tb H0 O0 O H' (L2.wipe σ vs) (wipeR ρ vs) ∧ St0 K Tb H0 O0 O H' σB ρB ∧ Ext (hide [D] H1) H' ∧ H' D = some (.lst l) ∧ RpAll K (hide O H') l (acc0 ++ done) ∧ lcGo t ft fe (wipeR ρ vs) (ds.drop i) = .ok rest ∧ done ++ rest = ys,
    ⟨ds.length, Nat.zero_le _, by simp, l0, [], ys, stw, stB, Ext.unhide, hD0, by simpa using r0, hys, rfl⟩, ?_⟩
  rintro i m H' ⟨hi, rfl, l, done, rest, s1, sB, e1, hD, ra, go, ey⟩
  have eG : Ext (hide O H1) H' := eO.trans e1
  by_cases hlt : i < ds.length
  · refine .inr ⟨it.go i H' eG hlt, fun H2 => i + 1 ≤ ds.length ∧ ∃ l done rest, St0 K Tb H0 O0 O H2 (L2.wipe σ vs) (wipeR ρ vs) ∧ St0 K Tb H0 O0 O H2 σB ρB ∧ Ext (hide [D] H1) H2 ∧ H2 D = some (.lst l) ∧ RpAll K (hide O H2) l (acc0 ++ done) ∧ lcGo t ft fe (wipeR ρ vs) (ds.drop (i + 1)) = .ok rest ∧ done ++ rest = ys,
      fun H2 q => ⟨ds.length - (i + 1), by omega, q.1, rfl, q.2⟩, fun x H2 y => ?_⟩
    obtain ⟨e2, d, hd, rx⟩ := it.yld i H' O x H2 eG nO s1.al hlt y
    have hdr : ds.drop i = d :: ds.drop (i + 1) := by
      obtain ⟨hl, hd'⟩ := List.getElem?_eq_some_iff.mp hd
      rw [List.drop_eq_getElem_cons hl, hd']
    rw [hdr] at go
    unfold lcGo at go
    cases et : t.set d (wipeR ρ vs) with
    | none => rw [et] at go; cases go
    | some ρ1 =>
      rw [et] at go
      obtain ⟨b, eb, go⟩ := nx_ok go
      have s2 := s1.step e2
      refine ⟨H0, O0, O, wipeR ρ vs, ρ1, d, s2, rx, et, fun σ' st' ag => ⟨(ag.wipe hv).trans wipe_wipe, H0, O0, O, ρ1, st', ?_⟩⟩
      rw [eb]
      intro b' H3 e3 r3
      cases (show b' = b from r3)
      have s3 := st'.step e3
      have keepD : ∀ {G : Hp}, Ext H' G → G D = some (.lst l) := fun e => e.keep D _ hD (fun _ q => by cases q)
      cases b with
      | false => exact ⟨hlt, l, done, rest, s2.step e3, sB.step (e2.trans e3), e1.trans (e2.trans e3), keepD (e2.trans e3), ra.mono (Sub.hide (e2.trans e3).keep), go, ey⟩
      | true =>
        obtain ⟨yd, ey1, go⟩ := nx_ok go
        obtain ⟨rs, er, go⟩ := nx_ok go
        cases go
        refine ⟨H0, O0, O, ρ1, s3, ?_⟩
        rw [ey1]
        intro y H4 e4 r4
        have e24 := (e2.trans e3).trans e4
        have hD4 := keepD e24
        have s4 := (s2.step e3).step e4
        have sB4 := sB.step e24
        have lz : l.length < sizeLine := by
          have h1 := ra.length
          have h2 := congrArg List.length ey
          simp only [List.length_append, List.length_cons] at h1 h2
          omega
        refine ⟨l, hD4, lz, hlt, l ++ [y], done ++ [yd], rs, s4.hid mD mD0 hD4 ownW, sB4.hid mD mD0 hD4 ownB, (e1.trans e24).updN nD (fun c q z => (plain_lst l).1 c q (Option.some.inj (hD4.symm.trans z))), upd_same, ?_, er, ?_⟩
        · rw [hide_upd mD, ← List.append_assoc]
          exact (ra.mono (Sub.hide e24.keep)).append (.one r4)
        · rw [List.append_assoc]; exact ey
  · have ei : i = ds.length := by omega
    subst ei
    refine .inl ⟨it.stop H' eG, ?_⟩
    rw [List.drop_length] at go
    cases go
    rw [List.append_nil] at ey
    subst ey
    exact fin l H' sB e1 hD ra
theorem lc2_walk {W : WX} {t t1 : Tg} {ft ft1 : DnB} {fe : Dn} {fi fi1 : DnL} {vs vs1 : List Nat} {σ : L2.St} {H : Hp} {Q : VK} (hv : ∀ i ∈ t.ixs, i ∈ vs) (hv1 : ∀ i ∈ t1.ixs, i ∈ vs1) (h : tD K Tb W (dLc2 fi t ft fi1 t1 ft1 fe vs vs1) σ H Q) :
    tLc2 (tI K Tb W fi) (tG K Tb t) (tDT K Tb W0 ft) (tI K Tb W0 fi1) (tG K Tb t1) (tDT K Tb W0 ft1) (tD K Tb W0 fe) vs vs1 σ H Q := by
  obtain ⟨H0, O0, O, ρ, st, h⟩ := h
  refine ⟨H0, O0, O, ρ, st, Post.then h fun ds J H1 e it k => ?_⟩
  cases q : lc2Go t ft fi1 t1 ft1 fe vs1 (wipeR ρ vs) ds with
  | exc x => rw [q] at k; exact k.elim
  | bad => rw [q] at k; exact k.elim
  | ok ys =>
    rw [q, nx_ok'] at k
    split at k
    case isFalse => exact k.elim
    rename_i hz
    intro D nD
    have st1 := st.step e
    have aD : D ∉ O := st1.fresh nD
    have stw := (st1.wiped vs).more (o := .lst []) nD (plain_lst [])
    have aD0 : D ∉ O0 := fun m => aD (st1.sub D m)
    have own : ∀ (i : Nat) (s : Sl), s.Hold → (wipeR ρ vs)[i]? = some (some s) → (L2.wipe σ vs)[i]? ≠ some (some (.ref D)) := fun i s hs h1 h2 => aD ((st1.wiped vs).hold hs h1 h2).1
    have nO : ∀ b ∈ D :: O, hide O H1 b = none := fun b hb => by
      rcases List.mem_cons.mp hb with rfl | hb
      · exact hide_none nD
      · exact hide_in hb
    refine ⟨fun i m H' => i ≤ ds.length ∧ m = ds.length - i ∧ ∃ l done rest, St0 K Tb H0 O0 (D :: O) H' (L2.wipe σ vs) (wipeR ρ vs) ∧ Ext H1 H' ∧ H' D = some (.lst l) ∧ RpAll K (hide (D :: O) H') l done ∧ lc2Go t ft fi1 t1 ft1 fe vs1 (wipeR ρ vs) (ds.drop i) = .ok rest ∧ done ++ rest = ys,
      ⟨ds.length, Nat.zero_le _, by simp, [], [], ys, stw, Ext.new nD, upd_same, .nil, q, rfl⟩, ?_⟩
    rintro i m H' ⟨hi, rfl, l, done, rest, s1, e1, hD, ra, go, ey⟩
    have eG : Ext (hide O H1) H' := Ext.unhide.trans e1
    by_cases hlt : i < ds.length
    · refine .inr ⟨it.go i H' eG hlt, fun H2 => i + 1 ≤ ds.length ∧ ∃ l done rest, St0 K Tb H0 O0 (D :: O) H2 (L2.wipe σ vs) (wipeR ρ vs) ∧ Ext H1 H2 ∧ H2 D = some (.lst l) ∧ RpAll K (hide (D :: O) H2) l done ∧ lc2Go t ft fi1 t1 ft1 fe vs1 (wipeR ρ vs) (ds.drop (i + 1)) = .ok rest ∧ done ++ rest = ys,
        fun H2 q => ⟨ds.length - (i + 1), by omega, q.1, rfl, q.2⟩, fun x H2 y => ?_⟩
      obtain ⟨e2, d, hd, rx⟩ := it.yld i H' (D :: O) x H2 eG nO s1.al hlt y
      have hdr : ds.drop i = d :: ds.drop (i + 1) := by
        obtain ⟨hl, hd'⟩ := List.getElem?_eq_some_iff.mp hd
        rw [List.drop_eq_getElem_cons hl, hd']
      rw [hdr] at go
      unfold lc2Go at go
      cases et : t.set d (wipeR ρ vs) with
      | none => rw [et] at go; cases go
      | some ρ1 =>
        rw [et] at go
        obtain ⟨b, eb, go⟩ := nx_ok go
        have s2 := s1.step e2
        refine ⟨H0, O0, D :: O, wipeR ρ vs, ρ1, d, s2, rx, et, fun σ2 st2 ag => ⟨(ag.wipe hv).trans wipe_wipe, H0, O0, D :: O, ρ1, st2, ?_⟩⟩
        rw [eb]
        intro b' H3 e3 r3
        cases (show b' = b from r3)
        have s3 := st2.step e3
        have keepD : ∀ {G : Hp}, Ext H' G → G D = some (.lst l) := fun e => e.keep D _ hD (fun _ q => by cases q)
        cases b with
        | false => exact ⟨hlt, l, done, rest, s2.step e3, e1.trans (e2.trans e3), keepD (e2.trans e3), ra.mono (Sub.hide (e2.trans e3).keep), go, ey⟩
        | true =>
          obtain ⟨es, ee, go⟩ := nx_ok go
          obtain ⟨ys1, ey1, go⟩ := nx_ok go
          obtain ⟨zs, ez, go⟩ := nx_ok go
          cases go
          refine ⟨H0, O0, D :: O, ρ1, s3, ?_⟩
          rw [ee]
          intro J1 H4 e4 it1
          have e24 := (e2.trans e3).trans e4
          have hD4 := keepD e24
          have s4 := s3.step e4
          have sB := (s2.step e3).step e4
          have own1 : ∀ (i : Nat) (s : Sl), s.Hold → ρ1[i]? = some (some s) → σ2[i]? ≠ some (some (.ref D)) := fun i xs hs h1 h2 => by
            have g1 := tg_own hs h1 et
            obtain ⟨_, g2⟩ := wipeR_some g1
            rw [ag.2 i fun m => g2 (hv i m)] at h2
            exact own i xs hs g1 h2
          refine in_turns (acc0 := done) hv1 List.mem_cons_self aD0 own1 own s4 sB it1 ey1 hD4 (ra.mono (Sub.hide e24.keep)) ?_ fun l' H5 sB5 e5 hD5 r5 => ?_
          · have h2 := congrArg List.length ey
            simp only [List.length_append] at h2
            omega
          · refine ⟨hlt, l', done ++ ys1, zs, sB5, ext_past (e1.trans e24) nD (fun c q z => (plain_lst l).1 c q (Option.some.inj (hD4.symm.trans z))) e5, hD5, r5, ez, ?_⟩
            rw [List.append_assoc]; exact ey
    · have ei : i = ds.length := by omega
      subst ei
      refine .inl ⟨it.stop H' eG, ?_⟩
      rw [List.drop_length] at go
      cases go
      rw [List.append_nil] at ey
      subst ey
      exact k _ H' e1 (.lst (.of (by rw [hide_out aD]; exact hD)) hz (ra.mono (Sub.less fun b hb => List.mem_cons_of_mem _ hb)))
end
section
variable {X : Cx} {Tb : List Addr} {W : WX}
theorem fs_setLc2 {i : Nat} {y : Str} {py : Pos} {elt tg iter tg1 iter1 : Expr} {ifs ifs1 : List Expr} {scope : Scope} {own : List (Str × Nat)} {vs1 : List Nat} {pos spos : Pos} {fi fi1 : DnL} {t t1 : Tg} {ft ft1 : DnB} {fe : Dn} (hc : X.calm = true) (hN : X.N.Nodup) (hy : X.N[i]? = some y) (hyl : X.env.scope.names.lookup y = some .local)
    (hsw : swapsWith (.ListComp elt [⟨tg, iter, ifs, 0⟩, ⟨tg1, iter1, ifs1, 0⟩] scope pos) (some (.Name y py)) spos.line X.env = pure true) (hi : PI X tg iter (tI X.K Tb W fi)) (ok : BlkOk X.N X.env.scope scope own)
    (hg : ∀ (s : Shared) (H : Hp) (C : Addr) (cl : List (Str × Addr)) (fp : List Addr), PG (X.blk s H scope (compEnvC scope cl C X.env) fp) tg (tG X.K Tb t))
    (ht : ∀ (s : Shared) (H : Hp) (C : Addr) (cl : List (Str × Addr)) (fp : List Addr), PTs (X.blk s H scope (compEnvC scope cl C X.env) fp) ifs (tDT X.K Tb W0 ft))
    (hi1 : ∀ (s : Shared) (H : Hp) (C : Addr) (cl : List (Str × Addr)) (fp : List Addr), PI (X.blk s H scope (compEnvC scope cl C X.env) fp) tg1 iter1 (tI X.K Tb W0 fi1))
    (hg1 : ∀ (s : Shared) (H : Hp) (C : Addr) (cl : List (Str × Addr)) (fp : List Addr), PG (X.blk s H scope (compEnvC scope cl C X.env) fp) tg1 (tG X.K Tb t1))
    (ht1 : ∀ (s : Shared) (H : Hp) (C : Addr) (cl : List (Str × Addr)) (fp : List Addr), PTs (X.blk s H scope (compEnvC scope cl C X.env) fp) ifs1 (tDT X.K Tb W0 ft1))
    (he : ∀ (s : Shared) (H : Hp) (C : Addr) (cl : List (Str × Addr)) (fp : List Addr), PE (X.blk s H scope (compEnvC scope cl C X.env) fp) elt (tD X.K Tb W0 fe))
    (hvv : ∀ i ∈ vs1, i ∈ own.map (·.2) := by decide) (hv : ∀ i ∈ t.ixs, i ∈ own.map (·.2) := by decide) (hv1 : ∀ i ∈ t1.ixs, i ∈ vs1 := by decide) (hs : ∀ x, foldedSetIterable iter X.env x = pure x := by intro _; rfl) (hs1 : ∀ env x, foldedSetIterable iter1 env x = pure x := by intro _ _; rfl) :
    PS X (.Assign [.Name y py] (.ListComp elt [⟨tg, iter, ifs, 0⟩, ⟨tg1, iter1, ifs1, 0⟩] scope pos) spos) (tS X.K Tb W (gSet (dLc2 fi t ft fi1 t1 ft1 fe (own.map (·.2)) vs1) (.nm i))) :=
  (ps_setLc2 hc hN hy hyl hsw hi ok hvv hg ht hi1 hg1 ht1 he hs hs1).by fun D σ H ⟨H0, O0, O, ρ, st, h⟩ => lc2_walk (W := W) (Q := fun x H1 => gName i x σ H1 D.nx) hv hv1 ⟨H0, O0, O, ρ, st, oR_post st h fun d v H1 e r k => by
    unfold Tg.set at k
    exact k O _ H1 ((st.step e).set r)⟩
end
end PD
set_option Elab.async false
set_option linter.all false
set_option maxRecDepth 100000
set_option maxHeartbeats 1000000
namespace PD
open PySem PySem.Spec PyProof.Rows L2
theorem pget_list {X : Cx} : PGet X (rIxL X.K) := by
  intro pins s σ H o i ov iv Q I ro ri h
  obtain ⟨p, xs, k, z, rfl, rfl, hq, he, q⟩ := h
  cases ro
  obtain ⟨t, rfl⟩ := ri
  obtain ⟨its, r, pl, hz⟩ := I.list hq
  obtain ⟨j, h1, h2, h3, h4, h5⟩ := atI_get he
  obtain ⟨w, ew, rw'⟩ := r.get h2
  have hl := r.length
  have hn := line63
  have fin : EP X pins σ Q w s := ⟨z, H, I, rw', q⟩
  by_cases h0 : 0 ≤ k
  · have hj : k.toNat = j := by
      rw [seqIndex_of h0 h5] at h1
      exact Option.some.inj h1
    exact wpAny_getItem_list pl.isList h0 (by omega) (by rw [hj]; simpa using ew) fin
  · have hj : (k + (its.toArray.size : Int)).toNat = j := by
      rw [seqIndex_neg (by omega) h4] at h1
      rw [List.size_toArray, ← hl]
      exact Option.some.inj h1
    exact wpAny_getItem_list_neg pl.isList (by omega) (by rw [List.size_toArray] <;> omega) (by omega) (by rw [hj]; simpa using ew) fin
def gSetAt (i : Nat) (fi fe : Dn) : Sn := fun ρ => oR (fe ρ) ρ fun y => ownAt ρ i fun ds => match fi ρ with
  | .ok (.int k) => match ixN ds.length k with
    | some j => .nx (ρ.set i (some (.own (ds.set j y))))
    | none => .bad
  | _ => .bad
def gAugAt (i : Nat) (fi fe : Dn) : Sn := fun ρ => ownAt ρ i fun ds => match fi ρ with
  | .ok (.int k) => match fe ρ with
    | .ok (.int y) => match ixN ds.length k with
      | some j => match ds[j]? with
        | some (.int z) => .nx (ρ.set i (some (.own (ds.set j (.int (z + y))))))
        | _ => .bad
      | none => .bad
    | _ => .bad
  | _ => .bad
section
variable {X : Cx} {Tb : List Addr} {W : WX} {e ei : Expr} {f g : Dn} {pos npos spos : Pos} {x : Str}
theorem fs_setAt {i : Nat} (ho : X.N[i]? = some x) (hv : Vis X.env.scope x) (hd : (x == ("__debug__" : Str)) = false) (hcd : (x == ("__classdict__" : Str)) = false) (hi : PE X ei (tD X.K Tb W f)) (he : PE X e (tD X.K Tb W g))
    (ha : ∀ v, assign (.Subscript (.Name x npos) ei spos) X.env v = (do
      let ov ← holding [v] (eval (.Name x npos) X.env)
      let iv ← holding [v, ov] (eval ei X.env)
      standAt spos
      holding [v, ov, iv] (setItem ov iv v)
      release [v, ov, iv] []) := by intro _; rfl)
    (hs : swapsWithSole [.Subscript (.Name x npos) ei spos] e pos.line X.env = pure false := by rfl) (hw : swappedStores [.Subscript (.Name x npos) ei spos] e X.env = pure none := by rfl)
    (h1 : (assignEach [.Subscript (.Name x npos) ei spos] X.env).map (·.2) = [assign (.Subscript (.Name x npos) ei spos) X.env] := by rfl) :
    PS X (.Assign [.Subscript (.Name x npos) ei spos] e pos) (tS X.K Tb W (gSetAt i f g)) :=
  (ps_asg he (pg_sub (pe_var ho hv hd hcd) hi set_list ha) hs hw h1).by fun D σ H ⟨H0, O0, O, ρ, st, h⟩ => ⟨H0, O0, O, ρ, st, oR_post st h fun y v H1 ex rv k => by
    have st1 := st.step ex
    obtain ⟨ds, p, vs, e1, e2, hp, z, r, k⟩ := own_at st1 k
    refine ⟨.ref p, e2, H0, O0, O, ρ, st1, ?_⟩
    split at k
    · rename_i kk hf
      rw [hf]
      intro kv H2 ex2 rk
      cases rk
      split at k
      · rename_i j hj
        refine ⟨p, vs, kk, j, rfl, rfl, ex2.keep p _ hp (fun _ q => by cases q), by rw [r.length]; exact hj, k O σ _ ((st1.step ex2).ownSet e1 e2 (by rw [List.length_set]; exact z) ?_)⟩
        exact (r.mono (Sub.hide ex2.keep)).set (rv.mono (Sub.hide ex2.keep)) j
      · exact k.elim
    · exact k.elim⟩
theorem fs_augAt {i : Nat} (ho : X.N[i]? = some x) (hv : Vis X.env.scope x) (hd : (x == ("__debug__" : Str)) = false) (hcd : (x == ("__classdict__" : Str)) = false) (hi : PE X ei (tD X.K Tb W f)) (he : PE X e (tD X.K Tb W g))
    (ha : ∀ ov iv new, augStore ei ov iv new = (do holding [new, ov, iv] (setItem ov iv new); release [new, ov, iv] []; pure .next) := by intros; rfl) :
    PS X (.AugAssign (.Subscript (.Name x npos) ei spos) .Add e pos) (tS X.K Tb W (gAugAt i f g)) :=
  (ps_augS (pe_var ho hv hd hcd) hi pget_list he ip_add set_list ha).by fun D σ H ⟨H0, O0, O, ρ, st, h⟩ => by
    obtain ⟨ds, p, vs, e1, e2, hp, z, r, k⟩ := own_at st h
    refine ⟨.ref p, e2, H0, O0, O, ρ, st, ?_⟩
    split at k
    · rename_i kk hf
      rw [hf]
      intro kv H2 ex2 rk
      cases rk
      split at k
      · rename_i yy hg
        split at k
        · rename_i j hj
          split at k
          · rename_i zz hz
            have hp2 := ex2.keep p _ hp (fun _ q => by cases q)
            obtain ⟨v, g1, g2⟩ := r.get' hz
            cases g2
            refine ⟨p, vs, kk, .int zz, rfl, rfl, .of hp2, by unfold atI; rw [r.length, hj]; exact g1, H0, O0, O, ρ, st.step ex2, ?_⟩
            rw [hg]
            intro y' H3 ex3 ry
            cases ry
            refine ⟨zz, yy, rfl, rfl, p, vs, kk, j, rfl, rfl, ex3.keep p _ hp2 (fun _ q => by cases q), by rw [r.length]; exact hj, k O σ _ ((st.step (ex2.trans ex3)).ownSet e1 e2 (by rw [List.length_set]; exact z) ?_)⟩
            exact (r.mono (Sub.hide (ex2.trans ex3).keep)).set (.int _) j
          · exact k.elim
        · exact k.elim
      · exact k.elim
    · exact k.elim
end
end PD
set_option Elab.async false
set_option linter.all false
set_option maxRecDepth 100000
set_option maxHeartbeats 1000000
namespace PD
open PySem PySem.Spec PyProof.Rows L2
section
variable {X : Cx} {K : PySem.W.Frag}
theorem each_readsAll {h : Heap} : ∀ {us : List Value} {ds : List PyData}, PySem.W.EachIs (fun v d => ∃ as, Reads h v d as) us ds → ∃ as, ReadsAll h us ds as
  | _, _, .nil => ⟨_, .nil⟩
  | _, _, .cons ⟨as, r⟩ t => by
    obtain ⟨bs, q⟩ := each_readsAll t
    exact ⟨_, .cons r q⟩
theorem rpAll_nth {G : Hp} : ∀ {xs : List V} {ds : List PyData} {i : Nat} {x : V}, RpAll K G xs ds → xs[i]? = some x → Rp K G x (ds.getD i .none)
  | _, _, i, x, .nil, h => by simp at h
  | _, _, 0, x, .cons r _, h => by
    have := Option.some.inj (show some _ = some x from h)
    subst this
    exact r
  | _, _, i + 1, x, .cons _ t, h => rpAll_nth (i := i) t (by simpa using h)
theorem depthAll_le {n : Nat} : ∀ {ds : List PyData}, (∀ d ∈ ds, d.depth ≤ n) → PyData.depthAll ds ≤ n
  | [], _ => Nat.zero_le _
  | d :: ds, h => Nat.max_le.mpr ⟨h d List.mem_cons_self, depthAll_le fun e he => h e (List.mem_cons_of_mem _ he)⟩
end
end PD
set_option Elab.async false
set_option linter.all false
set_option maxRecDepth 100000
namespace PD
open PySem PySem.Spec PyProof.Rows L2
abbrev setNew (w : World) : Obj := { cls := .type "set", dict := none, data := .set #[] 0 (.fresh 0 0 (!w.params.followText "set-order")) }
section
variable {P : Program} {w : World} {A : Around} {E : Value → Shared → Prop} {s : Shared}
set_option maxRecDepth 100000 in
set_option maxHeartbeats 3200000 in
theorem set_of_list {l : Addr} {its : Array Value} (ks : List Int) {Q : Value → Shared → Prop} (free : A.handled = none) (isl : s.heap.IsList l its) (hin : IntsAre its.toList ks) (few : ks.length + 1 < scanBound)
    (next : ∀ (h' : Heap) (tk c : Nat), SetR w h' s.heap.objs.size (fun j => decide (j ∈ ks)) c → c ≤ ks.length → (∀ b o, s.heap.get? b = some o → h'.get? b = some o) → Q (.ref s.heap.objs.size) { s with heap := h', toks := tk }) :
    wpAny (model P w) A (call (.type "set") [.ref l]) Q E s := by
  have len : its.size = ks.length := by have q := IntsAre.length hin; rwa [Array.length_toList] at q
  obtain ⟨cc, tl, mro⟩ := F.called_set.mro
  have made := F.called_set.made
  have sub := F.called_set.sub
  refine wpAny_call (codeAny_of_tree (show wpAny _ _ (callAny (.type "set") _) _ _ _ from wpAny_pure ⟨Code.quiet_builtin _ (by decide +kernel), codeAny_builtin F.entry_type_call ?_⟩))
  rw [Around.under_plain (weight_type_call_type "set" [.ref l] []) rfl]
  have notT := F.called_set.notType
  have can := F.called_set.canCreate
  have args1 := F.typeCall_set_1 (.ref l)
  repeat any_goals first | assumption | wp_step
  refine codeAny_mono (code_set_led1 (.ref l) (E := E) (Q₁ := fun v s₁ => v = .ref s.heap.objs.size ∧ s₁ = { s with heap := s.heap.push (setNew w) }) ⟨rfl, rfl⟩) fun r s₁ hr => ?_
  rcases r with e | fl
  · exact hr
  rcases fl with v | _ | _ | _
  all_goals first | exact hr.elim | skip
  obtain ⟨rfl, rfl⟩ := hr
  have at0 : (s.heap.push (setNew w)).get? s.heap.objs.size = some (setNew w) := Heap.get?_push_size _ rfl
  have isT : Shared.TypeIs { s with heap := s.heap.push (setNew w) } (.ref s.heap.objs.size) "set" := ⟨_, at0, rfl⟩
  have look := F.called_set.init.lookup
  have bind := F.called_set.init.bind (.ref s.heap.objs.size)
  repeat any_goals first | assumption | wp_step
  let Done : Value → Shared → Prop := fun r s₂ => r = .none ∧ ∃ h' tk c, s₂ = { s with heap := h', toks := tk } ∧ SetR w h' s.heap.objs.size (fun j => decide (j ∈ ks)) c ∧ c ≤ ks.length ∧ ∀ b o, s.heap.get? b = some o → h'.get? b = some o
  refine codeAny_mono (codeAny_call_builtin (R := wants Done E) F.called_set.init.plain F.entry_set_init (check_set_init_1 isT ?_)) fun r₂ s₂ hr₂ => ?_
  · obtain ⟨ol, hol, hcl, nl, hdl⟩ := isl
    obtain ⟨k1, k2, k3, k4⟩ := ol
    simp only at hcl hdl
    subst hcl
    subst hdl
    have hol' : (s.heap.push (setNew w)).get? l = some { cls := .type "list", dict := k2, data := .seq its nl, slots := k4 } := Heap.get?_push_of_some _ hol
    have no1 := F.sub_list_set
    have no2 := F.sub_list_frozenset
    have no3 : (Value.type "list" == Value.type "dict") = false := by decide
    have isl1 : (s.heap.push (setNew w)).IsList l its := ⟨_, hol', rfl, nl, rfl⟩
    unfold Builtin.«set.__init__» Builtin.Frozenset.updateFrom noKeywords
    generalize hPI : pyIter = PI
    wp_walk
    subst hPI
    refine wpAny_pyIter_list isl1 (wpAny_bind (wpAny_runValue ?_))
    have below : l < s.heap.objs.size := Heap.lt_size hol
    have free3 : A.in1.in1.in1.handled = none := by simp [free]
    have neI : l ≠ (s.heap.push (setNew w)).objs.size := by rw [Heap.size_push]; exact Nat.ne_of_lt (Nat.lt_succ_of_lt below)
    have notIn : s.heap.objs.size ∉ [(s.heap.push (setNew w)).objs.size, l] := by
      rw [Heap.size_push]
      intro z
      rcases List.mem_cons.mp z with z | z
      · exact absurd z (Nat.ne_of_lt (Nat.lt_succ_self _))
      · exact absurd (List.mem_singleton.mp z) (Nat.ne_of_gt below)
    have val : ∀ (i : Nat) (v : Value), its[i]? = some v → ∃ k t, ks[i]? = some k ∧ v = .int k t := fun i v hv => by
      have hi : i < ks.length := by rw [← len]; exact (Array.getElem?_eq_some_iff.mp hv).1
      obtain ⟨t, e⟩ := PyProof.Rows.IntsAre.int_at hin i v (by rw [Array.getElem?_toList]; exact hv)
      exact ⟨ks[i], t, List.getElem?_eq_getElem hi, by rw [e, List.getD_eq_getElem?_getD, List.getElem?_eq_getElem hi]; rfl⟩
    refine set_update_ints ((Walks.list free3 _ l neI its).toS) s.heap.objs.size notIn ks len few val (its.size - 0) 0 _ (by omega) (Nat.zero_le _) ⟨⟨_, Heap.get?_push_size _ rfl, rfl, rfl⟩, (isl1.push _)⟩ ?first ?last
    case first => exact ⟨0, Nat.le_refl 0, setR_new_at (Heap.get?_push_of_some _ at0)⟩
    case last =>
      intro s' c' hm hc' hS'
      obtain ⟨h', g2, d', tk', os'⟩ := s'
      have eg : g2 = s.gens := hm.gens
      have ed : d' = s.drawn := hm.drawn
      have eo : os' = s.os := hm.os
      subst eg
      subst ed
      subst eo
      refine (show wpAny _ _ _ _ _ _ from wpAny_pure ?_)
      rw [len] at hc'
      refine (show wpAny _ _ (ret Value.none) _ _ _ from wpAny_pure ⟨rfl, h', tk', c', rfl, hS', hc', fun b o e => ?_⟩)
      have b0 : b < s.heap.objs.size := Heap.lt_size e
      have b2 : b ≠ (s.heap.push (setNew w)).objs.size := by rw [Heap.size_push]; exact Nat.ne_of_lt (Nat.lt_succ_of_lt b0)
      refine hm.heap b o (fun z => ?_) (Heap.get?_push_of_some _ (Heap.get?_push_of_some _ e))
      rcases List.mem_cons.mp z with z | z
      · exact Nat.ne_of_lt b0 z
      · exact b2 (List.mem_singleton.mp z)
  · rcases r₂ with e | fl₂
    · exact hr₂
    · rcases fl₂ with v | _ | _ | _
      all_goals first | exact hr₂.elim | skip
      obtain ⟨rfl, h', tk, c, rfl, hS', hc, hk'⟩ := hr₂
      repeat any_goals first | assumption | wp_step
      exact next _ _ _ hS' hc hk'
end
end PD
set_option Elab.async false
set_option linter.all false
set_option maxRecDepth 100000
set_option maxHeartbeats 1000000
namespace PD
open PySem PySem.Spec PyProof.Rows L2
def insU (x : Int) : List Int → List Int
  | [] => [x]
  | y :: l => if x < y then x :: y :: l else if x = y then y :: l else y :: insU x l
def uniq (l : List Int) : List Int := l.foldr insU []
theorem mem_insU {x z : Int} : ∀ {l : List Int}, z ∈ insU x l ↔ z = x ∨ z ∈ l
  | [] => by simp [insU]
  | y :: l => by
    unfold insU
    split
    · rw [List.mem_cons]
    · split
      · rename_i h; subst h; rw [List.mem_cons]; constructor
        · exact fun a => .inr a
        · rintro (a | a)
          · exact .inl a
          · exact a
      · rw [List.mem_cons, mem_insU (l := l), List.mem_cons]
        constructor
        · rintro (a | a | a)
          · exact .inr (.inl a)
          · exact .inl a
          · exact .inr (.inr a)
        · rintro (a | a | a)
          · exact .inr (.inl a)
          · exact .inl a
          · exact .inr (.inr a)
theorem insU_asc {x : Int} : ∀ {l : List Int}, l.Pairwise (· < ·) → (insU x l).Pairwise (· < ·)
  | [], _ => List.pairwise_singleton _ _
  | y :: l, h => by
    obtain ⟨h1, h2⟩ := List.pairwise_cons.mp h
    unfold insU
    split
    · rename_i q
      refine List.pairwise_cons.mpr ⟨fun z hz => ?_, h⟩
      rcases List.mem_cons.mp hz with e | e
      · omega
      · have := h1 z e; omega
    · split
      · exact h
      · refine List.pairwise_cons.mpr ⟨fun z hz => ?_, insU_asc h2⟩
        rcases mem_insU.mp hz with e | e
        · omega
        · exact h1 z e
theorem uniq_asc (l : List Int) : (uniq l).Pairwise (· < ·) := by
  unfold uniq
  induction l with
  | nil => exact .nil
  | cons x l ih => exact insU_asc ih
theorem mem_uniq {l : List Int} {z : Int} : z ∈ uniq l ↔ z ∈ l := by
  unfold uniq
  induction l with
  | nil => simp
  | cons x l ih => rw [List.foldr_cons, mem_insU, ih, List.mem_cons]
theorem asc_uniq {a b : List Int} (ha : a.Pairwise (· < ·)) (hb : b.Pairwise (· < ·)) (h : ∀ z, z ∈ a ↔ z ∈ b) : a = b :=
  List.Perm.eq_of_pairwise (le := fun x y : Int => x < y) (fun x y _ _ h1 h2 => by omega) ha hb ((List.perm_ext_iff_of_nodup (ha.imp fun {x y} h e => by omega) (hb.imp fun {x y} h e => by omega)).mpr h)
def bSortSet : PyData → R PyData
  | .tuple xs => ofO (asInts xs) fun ns => if ns.length < 60 then .ok (.list ((uniq ns).map .int)) else .bad
  | .list xs => ofO (asInts xs) fun ns => if ns.length < 60 then .ok (.list ((uniq ns).map .int)) else .bad
  | _ => .bad
section
variable {X : Cx}
def rSetTI (K : PySem.W.Frag) (w : World) : List V → Hp → VK → Prop := fun vs H Q => ∃ (a : Addr) (ns : List Int), vs = [V.ref a] ∧ (SqT K H a (ns.map V.int) ∨ SqL K H a (ns.map V.int)) ∧ ns.length + 1 < scanBound ∧ ∀ (p : Addr) (c : Nat), H p = none → c ≤ ns.length → Q (.ref p) (upd H p (SetO w p (fun j => decide (j ∈ ns)) c))
theorem cr_setTI (hc : X.calm = true) : CallR X (.type "set") (rSetTI X.K X.w) := by
  intro pins s σ H vs us Q I r h
  obtain ⟨a, ns, rfl, hs, hb, q⟩ := h
  rw [Vals.ref1 r]
  have fin : ∀ (h' : Heap) (tk c : Nat), SetR X.w h' s.heap.objs.size (fun j => decide (j ∈ ns)) c → c ≤ ns.length → (∀ b o, s.heap.get? b = some o → h'.get? b = some o) → EP X pins σ Q (.ref s.heap.objs.size) { s with heap := h', toks := tk } := fun h' tk c R hc2 keep =>
    ⟨.ref _, upd H s.heap.objs.size (SetO X.w s.heap.objs.size (fun j => decide (j ∈ ns)) c), I.laid (t' := tk) keep (Nat.le_refl _) (setO_new R), rfl, q _ c (I.hok.fresh (Nat.le_refl _)) hc2⟩
  rcases hs with hs | hs
  · obtain ⟨its, rv, hl, _⟩ := I.tuple hs
    exact call_set_tupI ns (I.ok.hd hc) hl rv.ints hb fin
  · obtain ⟨its, rv, hl, _⟩ := I.list hs
    exact set_of_list ns (I.ok.hd hc) hl.isList (by simpa using rv.ints) hb fin
end
theorem boot_set2 : bootBuiltins "set" = some (.type "set") := by decide +kernel
section
variable {X : Cx} {Tb : List Addr} {W : WX} {e : Expr} {f : Dn} {p p2 pos pos2 : Pos}
theorem fd_sortSet (B : Bi X.mg) (he : PE X e (tD X.K Tb W f)) (hc : X.calm = true := by rfl) (hg1 : Gl X "sorted" := by rfl) (hg2 : Gl X "set" := by rfl)
    (n1 : starEach [e] X.env = (false, eval e X.env) :: starEach [] X.env := by rfl) (n2 : starEach [.Call (.Name "set" p2) [e] [] pos2] X.env = (false, eval (.Call (.Name "set" p2) [e] [] pos2) X.env) :: starEach [] X.env := by rfl) :
    PE X (.Call (.Name "sorted" p) [.Call (.Name "set" p2) [e] [] pos2] [] pos) (tD X.K Tb W (dOne bSortSet f)) :=
  (pe_callB (cr_sortedSet hc) hg1 B.sorted boot_sorted (pa_cons (pe_callTy (cr_setTI hc) hg2 B.set boot_set2 (pa_cons he pa_nil n1) (by decide) (by decide) n1 (by rfl)) pa_nil n2) (by decide) (by decide) n2 (by rfl)).by fun σ H Q ⟨H0, O0, O, ρ, st, h⟩ => ⟨H0, O0, O, ρ, st, by
    refine Post.then h fun d v H1 ex rv k => ?_
    unfold bSortSet at k
    split at k
    · rename_i xs
      cases en : asInts xs with
      | none => rw [en] at k; exact k.elim
      | some ns =>
        rw [en] at k
        unfold ofO at k
        dsimp only at k
        by_cases hz : ns.length < 60
        · rw [if_pos hz] at k
          cases rv with
          | tup h1 z1 a1 =>
            have ev := ints_rp a1 en
            subst ev
            refine ⟨_, ns, rfl, .inl (Sub.unhide.sqT h1), by show ns.length + 1 < 4096; omega, fun q c hq hc2 => ?_⟩
            refine ⟨q, _, c, rfl, upd_same, by omega, fun ns' q2 asc mem len hq2 => ?_⟩
            have e1 : ns' = uniq ns := asc_uniq asc (uniq_asc ns) fun z => by rw [mem_uniq, mem]; simp
            have ne : q2 ≠ q := fun z => by rw [z, upd_same] at hq2; cases hq2
            have hq3 : H1 q2 = none := by rw [upd_ne ne] at hq2; exact hq2
            have al := (st.step ex).al
            subst e1
            refine k _ _ ((Ext.new hq).trans (Ext.new hq2)) (.lst (xs := (uniq ns).map V.int) (.of ?_) (by rw [List.length_map, sizeLine_eq]; omega) (rp_ints _))
            rw [hide_out (fun m => al q2 m hq3)]
            exact upd_same
        · rw [if_neg hz] at k
          exact k.elim
    · rename_i xs
      cases en : asInts xs with
      | none => rw [en] at k; exact k.elim
      | some ns =>
        rw [en] at k
        unfold ofO at k
        dsimp only at k
        by_cases hz : ns.length < 60
        · rw [if_pos hz] at k
          cases rv with
          | lst h1 z1 a1 =>
            have ev := ints_rp a1 en
            subst ev
            refine ⟨_, ns, rfl, .inr (Sub.unhide.sqL h1), by show ns.length + 1 < 4096; omega, fun q c hq hc2 => ?_⟩
            refine ⟨q, _, c, rfl, upd_same, by omega, fun ns' q2 asc mem len hq2 => ?_⟩
            have e1 : ns' = uniq ns := asc_uniq asc (uniq_asc ns) fun z => by rw [mem_uniq, mem]; simp
            have ne : q2 ≠ q := fun z => by rw [z, upd_same] at hq2; cases hq2
            have hq3 : H1 q2 = none := by rw [upd_ne ne] at hq2; exact hq2
            have al := (st.step ex).al
            subst e1
            refine k _ _ ((Ext.new hq).trans (Ext.new hq2)) (.lst (xs := (uniq ns).map V.int) (.of ?_) (by rw [List.length_map, sizeLine_eq]; omega) (rp_ints _))
            rw [hide_out (fun m => al q2 m hq3)]
            exact upd_same
        · rw [if_neg hz] at k
          exact k.elim
    · exact k.elim⟩
end
end PD
set_option Elab.async false
set_option linter.all false
set_option maxRecDepth 100000
set_option maxHeartbeats 1000000
namespace PD
open PySem PySem.Spec PyProof.Rows L2
section
variable {K : PySem.W.Frag} {Tb : List Addr} {W : WX} {H0 H0' H H' : Hp} {O0 O : List Addr} {ρ : Rho} {σ : L2.St} {p : Addr} {D : Ends}
/-- the object that slot i owns changes -/
theorem St0.holdSet {i : Nat} {s0 s1 : Sl} {o o' : HO} (z0 : s0.Hold) (z1 : s1.Hold) (st : St0 K Tb H0 O0 O H σ ρ) (hi : ρ[i]? = some (some s0)) (hp : σ[i]? = some (some (.ref p))) (hH : H p = some o) (po : Plain o) (po' : Plain o') (nx : ∀ fs, o ≠ .xd fs) (r : SlotR K O0 O (upd H p o') (.ref p) s1) :
    St0 K Tb H0 O0 O (upd H p o') σ (ρ.set i (some s1)) := by
  obtain ⟨m, m0⟩ := st.hold z0 hi hp
  have il : i < ρ.length := (List.getElem?_eq_some_iff.mp hi).1
  have own : ∀ (j : Nat) (s : Sl), s.Hold → j ≠ i → ρ[j]? = some (some s) → σ[j]? ≠ some (some (.ref p)) := fun j s hs hj h1 h2 => hj (st.inj j i p s s0 hs z0 h1 hi h2 hp)
  refine ⟨st.ext.updN (st.new p m m0) (fun c q z => po.1 c q (Option.some.inj (hH.symm.trans z))), st.sub, st.new, fun b h => ?_, fun P mp => ?_, fun b mb nb => ?_, by rw [List.length_set]; exact st.len, fun j x h => ?_, fun j k q xs ys hx hy h1 h2 h3 h4 => ?_⟩
  · by_cases hb : b = p
    · rw [hb, upd_same]; simp
    · rw [upd_ne hb]; exact st.al b h
  · have hb : P ≠ p := tabG_ne (st.tab P mp) fun ps q => by rw [hH] at q; exact po.2 ps (Option.some.inj q)
    exact (st.tab P mp).mono (fun ps h => by rw [upd_ne hb]; exact h) fun c q h => by
      rw [upd_ne fun z => po.1 c q (Option.some.inj (hH.symm.trans (by rw [← z]; exact h)))]
      exact h
  · by_cases hb : b = p
    · exact ⟨_, by rw [hb]; exact upd_same, po'⟩
    · obtain ⟨x, h, q⟩ := st.pln b mb nb
      exact ⟨x, by rw [upd_ne hb]; exact h, q⟩
  · by_cases e : i = j
    · subst e
      rw [List.getElem?_set_self il] at h
      cases h
      exact ⟨_, hp, r⟩
    · rw [List.getElem?_set_ne e] at h
      obtain ⟨v, h1, h2⟩ := st.slot j x h
      refine ⟨v, h1, h2.mv (by rw [hide_upd m]; exact fun _ _ h _ => h) (fun hx q ev mq _ => ⟨mq, fun o hq _ => ?_⟩) fun dd fs h => ?_⟩
      · have hne : q ≠ p := fun e2 => own j x hx (fun z => e z.symm) h (by rw [h1, ev, e2])
        rw [upd_ne hne]; exact hq
      · rw [upd_ne (fun e => by rw [e, hH] at h; exact nx fs (Option.some.inj h))]; exact h
  · have g : ∀ (j : Nat) (s : Sl), s.Hold → (ρ.set i (some s1))[j]? = some (some s) → ∃ s', s'.Hold ∧ ρ[j]? = some (some s') := fun j s hs h => by
      by_cases e : i = j
      · subst e; exact ⟨s0, z0, hi⟩
      · rw [List.getElem?_set_ne e] at h; exact ⟨s, hs, h⟩
    obtain ⟨xs', x1, g1⟩ := g j xs hx h1
    obtain ⟨ys', y1, g2⟩ := g k ys hy h2
    exact st.inj j k q xs' ys' x1 y1 g1 g2 h3 h4
/-- a new object becomes slot i's own -/
theorem St0.holdNew {i : Nat} {s1 : Sl} {o : HO} (st : St0 K Tb H0 O0 O H σ ρ) (e : Ext H H') (n : H p = none) (hp : H' p = some o) (po : Plain o) (r : SlotR K O0 (p :: O) H' (.ref p) s1) :
    St0 K Tb H0 O0 (p :: O) H' (σ.set i (some (.ref p))) (ρ.set i (some s1)) := by
  have nO : p ∉ O := st.fresh n
  have n0 : H0 p = none := by
    cases q : H0 p with
    | none => rfl
    | some x => exact absurd n (st.ext.al p (by rw [q]; simp))
  have sub : Sub (hide O H) (hide (p :: O) H') := fun b o h t => by
    obtain ⟨h1, h2⟩ := hide_some h
    have hb : b ≠ p := ne_of_none h2 n
    rw [hide_out (by rw [List.mem_cons, not_or]; exact ⟨hb, h1⟩)]
    exact e.keep b o h2 t
  have nown : ∀ (j : Nat) (s : Sl), s.Hold → ρ[j]? = some (some s) → σ[j]? ≠ some (some (.ref p)) := fun j s hs h h2 => nO (st.hold hs h h2).1
  refine ⟨st.ext.trans e, fun b h => List.mem_cons_of_mem _ (st.sub b h), fun b h h2 => ?_, fun b h => ?_, fun P m => e.tab P (st.tab P m), fun b mb nb => ?_, by rw [List.length_set, List.length_set]; exact st.len, fun j s h => ?_, fun j k q xs ys hx hy h1 h2 h3 h4 => ?_⟩
  · rcases List.mem_cons.mp h with rfl | h
    · exact n0
    · exact st.new b h h2
  · rcases List.mem_cons.mp h with rfl | h
    · rw [hp]; simp
    · exact e.al b (st.al b h)
  · rcases List.mem_cons.mp mb with rfl | mb
    · exact ⟨_, hp, po⟩
    · obtain ⟨x, h, q⟩ := st.pln b mb nb
      exact ⟨x, e.keep b x h q.2, q⟩
  · by_cases ej : i = j
    · subst ej
      have il : i < ρ.length := by
        have := (List.getElem?_eq_some_iff.mp h).1
        rw [List.length_set] at this
        exact this
      rw [List.getElem?_set_self il] at h
      cases h
      exact ⟨_, by rw [List.getElem?_set_self (by rw [st.len]; exact il)], r⟩
    · rw [List.getElem?_set_ne ej] at h ⊢
      obtain ⟨v, h1, h2⟩ := st.slot j s h
      exact ⟨v, h1, h2.mv sub (fun _ q _ mq _ => ⟨List.mem_cons_of_mem _ mq, fun o hq n => e.keep q o hq n⟩) fun dd fs h => e.keep dd _ h fun _ z => by cases z⟩
  · have lt : ∀ (j : Nat) (s : Sl), i = j → (ρ.set i (some s1))[j]? = some (some s) → j < σ.length := fun j xs ej h => by
      have := (List.getElem?_eq_some_iff.mp h).1
      rw [List.length_set] at this
      rw [st.len]; exact this
    by_cases ej : i = j
    · by_cases ek : i = k
      · rw [← ej, ← ek]
      · subst ej
        rw [List.getElem?_set_self (lt _ _ rfl h1)] at h3
        cases h3
        rw [List.getElem?_set_ne ek] at h2 h4
        exact absurd h4 (nown k ys hy h2)
    · by_cases ek : i = k
      · subst ek
        rw [List.getElem?_set_self (lt _ _ rfl h2)] at h4
        cases h4
        rw [List.getElem?_set_ne ej] at h1 h3
        exact absurd h3 (nown j xs hx h1)
      · rw [List.getElem?_set_ne ej] at h1 h3
        rw [List.getElem?_set_ne ek] at h2 h4
        exact st.inj j k q xs ys hx hy h1 h2 h3 h4
end
/-- x = {} -/
def gNewD (i : Nat) : Sn := fun ρ => .nx (ρ.set i (some (.dct [])))
def dctAt (ρ : Rho) (i : Nat) (k : List (List Int) → Out) : Out := match ρ[i]? with
  | some (some (.dct ds)) => k ds
  | _ => .bad
/-- x[e] = True -/
def gPutD (i : Nat) (f : Dn) : Sn := fun ρ => dctAt ρ i fun ks => oR (f ρ) ρ fun d => match asTu d with
  | some k => if ks.length < sizeLine then .nx (ρ.set i (some (.dct (if k ∈ ks then ks else ks ++ [k])))) else .bad
  | none => .bad
/-- y = x.pop() -/
def gSetPop (j i : Nat) : Sn := fun ρ => ownAt ρ i fun ds => match ds.getLast? with
  | some d => .nx ((ρ.set i (some (.own ds.dropLast))).set j (some (.d d)))
  | none => .bad
/-- x.extend(e) -/
def gExt (i : Nat) (f : Dn) : Sn := fun ρ => ownAt ρ i fun ds => oR (f ρ) ρ fun d => match d with
  | .list es => if ds.length + es.length ≤ sizeLine then .nx (ρ.set i (some (.own (ds ++ es)))) else .bad
  | _ => .bad
def rExtL (K : PySem.W.Frag) : V → List V → Hp → VK → Prop := fun x vs H Q => ∃ l b xs zs, x = .ref l ∧ vs = [.ref b] ∧ H l = some (.lst xs) ∧ SqL K H b zs ∧ xs.length + zs.length ≤ sizeLine ∧ Q .non (upd H l (.lst (xs ++ zs)))
theorem list_extend_any (l : Addr) (items : Array Value) (n : Nat) (b : Addr) (items2 : Array Value) (n2 : Nat) (sl2 : Array (Option Value)) (hc0 : ¬(!items.isEmpty && Builtin.List.listTooLong (items.size + items2.size)) = true) (hc1 : items.size ≤ sizeLine) (hs2 : items.size + items2.size ≤ sizeLine + 1) :
    Meets (Builtin.«list.extend» ⟨[.ref l, .ref b], []⟩) (fun _ R s => s.heap.get? l = some { cls := .type "list", dict := none, data := .seq items n, slots := #[] } ∧ s.heap.get? b = some { cls := .type "list", dict := none, data := .seq items2 n2, slots := sl2 } ∧ R (.ok (.ret Value.none)) { s with heap := s.heap.update l (Obj.mapSeq fun x => x ++ items2), toks := s.toks }) :=
  .of_wp fun prog w A R s h => by
    obtain ⟨hp, g, d, tk, os⟩ := s; obtain ⟨hl, hb, h⟩ := h; have f1 := AutoSeq1.idx_int; have f2 := AutoSeq1.sub_tuple_tuple; have f3 := AutoSeq1.sub_list_list; have f4 := AutoSeq1.sub_tuple_list; have f5 := AutoSeq1.sub_list_tuple;
    have hz' : (items ++ items2).size ≤ sizeLine + 1 := by rw [Array.size_append]; exact hs2
    wp_walk using (wpAny_updateSeq hl rfl (hz := hc1) (_hz' := hz')), AutoSeq1.wpAny_loadPart' hl, AutoSeq1.wpAny_loadPart' hb; exact ⟨_, rfl, h⟩
section
variable {X : Cx} {pos : Pos}
theorem mt_extL : MtM X "list.extend" (rExtL X.K) := by
  intro pins s σ H x vs v us Q I rx rv h
  obtain ⟨l, b, xs, zs, rfl, rfl, hH, hB, hz, q⟩ := h
  cases rx
  obtain ⟨u, rfl, ru⟩ := rv.one
  cases ru
  obtain ⟨z, its, n, r, hl, e⟩ := I.lstM hH
  obtain ⟨its2, r2, ⟨o2, n2, e2, c2, d2, s2⟩, z2⟩ := I.list hB
  have hl2 : zs.length = its2.length := r2.length
  obtain ⟨c, dd, dt, sl⟩ := o2
  dsimp only at c2 d2 s2
  subst c2 d2 s2
  have hsz : its.toArray.size + its2.toArray.size ≤ sizeLine := by rw [List.size_toArray, List.size_toArray]; omega
  have hlong : ¬ (!its.toArray.isEmpty && Builtin.List.listTooLong (its.toArray.size + its2.toArray.size)) = true := by
    rw [notLongL hsz, Bool.and_false]
    exact Bool.false_ne_true
  refine call_meets F.slot_list_extend ⟨_, e, rfl⟩ F.entry_list_extend (F.args_list_extend_2 _ _)
    (list_extend_any l its.toArray n b its2.toArray n2 sl hlong (by rw [List.size_toArray]; omega) (by omega)) ⟨e, e2, ?_⟩
  refine ⟨.non, _, I.lset (its' := its ++ its2) hH e (by simp) (r.append r2) ?_, rfl, q⟩
  rw [List.length_append]
  omega
end
end PD
set_option Elab.async false
set_option linter.all false
set_option maxRecDepth 100000
set_option maxHeartbeats 1000000
namespace PD
open PySem PySem.Spec PyProof.Rows L2
def keyOk (p : PyData × PyData) : Bool := match p.1 with
  | .tuple l => decide (l.length ≤ sizeLine)
  | _ => false
def keysL : PyData → R (List PyData)
  | .dict kvs => if kvs.length ≤ sizeLine ∧ kvs.all keyOk = true then .ok (kvs.map (·.1)) else .bad
  | _ => .bad
def dKeys (f : Dn) : DnL := fun ρ => f ρ >>= keysL
theorem rp_intsV {K : PySem.W.Frag} {G : Hp} : ∀ k : List Int, RpAll K G (k.map V.int) (k.map .int)
  | [] => .nil
  | i :: k => .cons (.int i) (rp_intsV k)
end PD
set_option Elab.async false
set_option linter.all false
set_option maxRecDepth 100000
set_option maxHeartbeats 1000000
namespace PD
open PySem PySem.Spec PyProof.Rows L2
end PD
set_option Elab.async false
set_option linter.all false
set_option maxRecDepth 100000
set_option maxHeartbeats 1000000
namespace PD
open PySem PySem.Spec PyProof.Rows L2
end PD
namespace PD
open PySem PySem.Spec PyProof.Rows L2
end PD
namespace PD
open PySem PySem.Spec PyProof.Rows L2
end PD
set_option Elab.async false
set_option linter.all false
set_option maxRecDepth 100000
set_option maxHeartbeats 1000000
namespace PD
open PySem PySem.Spec PyProof.Rows L2
end PD
namespace PD
open PySem PySem.Spec PyProof.Rows L2
def dOwnIx (i : Nat) (f : Dn) : Dn := fun ρ => match ρ[i]? with
  | some (some (.own ds)) => f ρ >>= fun d => match d with
    | .int k => match atI ds k with
      | some y => .ok y
      | none => .bad
    | _ => .bad
  | _ => .bad
theorem e_ownIx {X : Cx} {Tb : List Addr} {W : WX} {i : Nat} {x : Str} {b : Expr} {f : Dn} {npos pos : Pos} (ho : X.N[i]? = some x) (hv : Vis X.env.scope x) (hd : (x == ("__debug__" : Str)) = false) (hcd : (x == ("__classdict__" : Str)) = false) (hb : PE X b (tD X.K Tb W f)) (hs : PlainIx b := by intro _ _; rfl) :
    PE X (.Subscript (.Name x npos) b pos) (tD X.K Tb W (dOwnIx i f)) := (pe_ix ix_seq (pe_var ho hv hd hcd) hb hs).by fun σ H Q ⟨H0, O0, O, ρ, st, h⟩ => by
  unfold dOwnIx at h
  split at h
  · rename_i ds e1
    obtain ⟨v, h1, p, vs, rfl, m, m0, hp, z, r⟩ := st.slot i _ e1
    refine ⟨.ref p, h1, H0, O0, O, ρ, st, Post.then h fun d v H1 ex rv k => ?_⟩
    split at k
    · rename_i kk
      cases rv
      split at k
      · rename_i y hy
        have key : ∃ u, atI vs kk = some u ∧ Rp X.K (hide O H) u y := by
          unfold atI at hy ⊢
          rw [r.length]
          cases e : ixN ds.length kk with
          | none => rw [e] at hy; cases hy
          | some j =>
            rw [e] at hy
            obtain ⟨u, g1, g2⟩ := r.get' hy
            exact ⟨u, g1, g2⟩
        obtain ⟨u, g1, g2⟩ := key
        exact .inl ⟨p, vs, kk, u, rfl, rfl, .of (ex.keep p _ hp (fun _ q => by cases q)), g1, Post.here k (g2.mono (Sub.hide ex.keep))⟩
      · exact k.elim
    · exact k.elim
  · exact h.elim
end PD
set_option Elab.async false
set_option linter.all false
set_option maxRecDepth 100000
namespace PD
open PySem PySem.Spec PySem.W PyProof.Rows
theorem kit_ty {K : Frag} {t : Value} {T : String} {v : Bool} (h2 : kitMeta T = true) (h4 : subIn K t (.type T) = some v) (d : (t == .type T) = false) :
    kitOne K t (.type T) = some v := by
  unfold kitOne
  rw [if_neg (by rw [d]; exact Bool.false_ne_true)]
  show (if kitMeta T = true then subIn K t (.type T) else none) = some v
  rw [if_pos h2]; exact h4
end PD
set_option Elab.async false
set_option linter.all false
set_option maxRecDepth 100000
namespace PD
open PySem PySem.Spec PyProof.Rows L2
end PD
set_option Elab.async false
set_option linter.all false
set_option maxRecDepth 100000
set_option maxHeartbeats 1000000
namespace PD
open PySem PySem.Spec PyProof.Rows L2
end PD
set_option Elab.async false
set_option linter.all false
set_option maxRecDepth 100000
set_option maxHeartbeats 1000000
namespace PD
open PySem PySem.Spec PySem.W PySem.Calls PyProof.Rows
end PD
set_option Elab.async false
set_option linter.all false
set_option maxRecDepth 100000
set_option maxHeartbeats 1000000
namespace PD
open PySem PySem.Spec PySem.W PySem.Calls PyProof.Rows
end PD
set_option Elab.async false
set_option linter.all false
set_option maxRecDepth 100000
set_option maxHeartbeats 1000000
namespace PD
open PySem PySem.Spec PySem.W PySem.Calls PyProof.Rows
end PD
set_option Elab.async false
set_option linter.all false
set_option maxRecDepth 100000
set_option maxHeartbeats 1000000
namespace PD
open PySem PySem.Spec PySem.W PySem.Calls PyProof.Rows
end PD
set_option Elab.async false
set_option linter.all false
set_option maxRecDepth 100000
set_option maxHeartbeats 1000000
namespace PD
open PySem PySem.Spec PyProof.Rows L2
end PD
set_option Elab.async false
set_option linter.all false
set_option maxRecDepth 100000
set_option maxHeartbeats 1000000
namespace PD
open PySem PySem.Spec PyProof.Rows L2
end PD
set_option Elab.async false
set_option linter.all false
set_option maxRecDepth 100000
set_option maxHeartbeats 1000000
namespace PD
open PySem PySem.Spec PyProof.Rows L2
end PD
set_option Elab.async false
set_option linter.all false
set_option maxRecDepth 100000
set_option maxHeartbeats 1000000
namespace PD
open PySem PySem.Spec PyProof.Rows L2 HotX L2H
end PD
namespace PD
open PySem PySem.Spec PyProof.Rows L2 HotX L2H
end PD
set_option Elab.async false
set_option linter.all false
set_option maxRecDepth 100000
set_option maxHeartbeats 1000000
namespace PD
open PySem PySem.Spec PyProof.Rows L2 HotX L2H
end PD
set_option Elab.async false
set_option linter.all false
set_option maxRecDepth 100000
set_option maxHeartbeats 1000000
namespace PD
open PySem PySem.Spec PyProof.Rows L2
end PD
set_option Elab.async false
set_option linter.all false
set_option maxRecDepth 100000
set_option maxHeartbeats 1000000
namespace PD
open PySem PySem.Spec PySem.W PySem.Calls PyProof.Rows L2
end PD
set_option Elab.async false
set_option linter.all false
set_option maxRecDepth 100000
set_option maxHeartbeats 1000000
namespace PD
open PySem PySem.Spec PyProof.Rows L2
end PD
set_option Elab.async false
set_option linter.all false
set_option maxRecDepth 100000
set_option maxHeartbeats 1000000
namespace PD
open PySem PySem.Spec PyProof.Rows L2
end PD
set_option Elab.async false
set_option linter.all false
set_option maxRecDepth 100000
set_option maxHeartbeats 1000000
namespace PD
open PySem PySem.Spec PyProof.Rows L2
end PD
set_option Elab.async false
set_option linter.all false
set_option maxRecDepth 100000
set_option maxHeartbeats 1000000
namespace PD
open PySem PySem.Spec PyProof.Rows L2
def tu (l : List Int) : PyData := .tuple (l.map .int)
def li (l : List Int) : PyData := .list (l.map .int)
def lt (ls : List (List Int)) : PyData := .list (ls.map tu)
def tt (ls : List (List Int)) : PyData := .tuple (ls.map tu)
@[simp] theorem tu_eq (l : List Int) : PyData.tuple (l.map PyData.int) = tu l := rfl
@[simp] theorem li_eq (l : List Int) : PyData.list (l.map PyData.int) = li l := rfl
@[simp] theorem lt_eq (ls : List (List Int)) : PyData.list (ls.map tu) = lt ls := rfl
@[simp] theorem tt_eq (ls : List (List Int)) : PyData.tuple (ls.map tu) = tt ls := rfl
@[simp] theorem tu_eq' {α : Type} (l : List α) (f : α → Int) : PyData.tuple (l.map fun x => PyData.int (f x)) = tu (l.map f) := by unfold tu; rw [List.map_map]; rfl
@[simp] theorem li_eq' {α : Type} (l : List α) (f : α → Int) : PyData.list (l.map fun x => PyData.int (f x)) = li (l.map f) := by unfold li; rw [List.map_map]; rfl
@[simp] theorem lt_eq' {α : Type} (l : List α) (f : α → List Int) : PyData.list (l.map fun x => tu (f x)) = lt (l.map f) := by unfold lt; rw [List.map_map]; rfl
@[simp] theorem tt_eq' {α : Type} (l : List α) (f : α → List Int) : PyData.tuple (l.map fun x => tu (f x)) = tt (l.map f) := by unfold tt; rw [List.map_map]; rfl
@[simp] theorem items_tu (l : List Int) : items (tu l) = .ok (l.map .int) := rfl
@[simp] theorem items_li (l : List Int) : items (li l) = .ok (l.map .int) := rfl
@[simp] theorem items_lt (l : List (List Int)) : items (lt l) = .ok (l.map tu) := rfl
@[simp] theorem items_tt (l : List (List Int)) : items (tt l) = .ok (l.map tu) := rfl
@[simp] theorem items_list (l : List PyData) : items (.list l) = .ok l := rfl
@[simp] theorem items_tuple (l : List PyData) : items (.tuple l) = .ok l := rfl
def dep (n : Nat) (d : PyData) : Prop := d.canLay0 = true ∧ d.depth ≤ n
theorem dep_int (i : Int) : dep 0 (.int i) := ⟨rfl, Nat.le_refl _⟩
theorem dep_bool (i : Bool) : dep 0 (.bool i) := ⟨rfl, Nat.le_refl _⟩
theorem dep_all {n : Nat} : ∀ {xs : List PyData}, (∀ x ∈ xs, dep n x) → PyData.canLayAll0 xs = true ∧ PyData.depthAll xs ≤ n
  | [], _ => ⟨rfl, Nat.zero_le _⟩
  | x :: xs, h => by
    obtain ⟨h1, h2⟩ := h x List.mem_cons_self
    obtain ⟨h3, h4⟩ := dep_all (xs := xs) fun y hy => h y (List.mem_cons_of_mem _ hy)
    refine ⟨?_, Nat.max_le.mpr ⟨h2, h4⟩⟩
    show (x.canLay0 && PyData.canLayAll0 xs) = true
    rw [h1, h3]; rfl
theorem dep_tuple {n : Nat} {xs : List PyData} (h : ∀ x ∈ xs, dep n x) : dep (n + 1) (.tuple xs) := ⟨(dep_all h).1, Nat.succ_le_succ (dep_all h).2⟩
theorem dep_list {n : Nat} {xs : List PyData} (h : ∀ x ∈ xs, dep n x) : dep (n + 1) (.list xs) := ⟨(dep_all h).1, Nat.succ_le_succ (dep_all h).2⟩
theorem dep_tu (l : List Int) : dep 1 (tu l) := dep_tuple fun x hx => by obtain ⟨i, _, rfl⟩ := List.mem_map.mp hx; exact dep_int i
theorem dep_li (l : List Int) : dep 1 (li l) := dep_list fun x hx => by obtain ⟨i, _, rfl⟩ := List.mem_map.mp hx; exact dep_int i
theorem dep_lt (l : List (List Int)) : dep 2 (lt l) := dep_list fun x hx => by obtain ⟨i, _, rfl⟩ := List.mem_map.mp hx; exact dep_tu i
theorem dep_tt (l : List (List Int)) : dep 2 (tt l) := dep_tuple fun x hx => by obtain ⟨i, _, rfl⟩ := List.mem_map.mp hx; exact dep_tu i
theorem shp_of {n : Nat} {d : PyData} (h : dep n d) (hn : n ≤ 64 := by decide) : shp d = true := by
  show (d.canLay0 && decide (d.depth ≤ 64)) = true
  rw [h.1, decide_eq_true (Nat.le_trans h.2 hn)]; rfl
@[simp] theorem shp_int (i : Int) : shp (.int i) = true := shp_of (dep_int i)
@[simp] theorem shp_bool (i : Bool) : shp (.bool i) = true := shp_of (dep_bool i)
@[simp] theorem shp_tu (l : List Int) : shp (tu l) = true := shp_of (dep_tu l)
@[simp] theorem shp_li (l : List Int) : shp (li l) = true := shp_of (dep_li l)
@[simp] theorem shp_lt (l : List (List Int)) : shp (lt l) = true := shp_of (dep_lt l)
@[simp] theorem shp_tt (l : List (List Int)) : shp (tt l) = true := shp_of (dep_tt l)
@[simp] theorem eqv_int (i j : Int) : PyData.eqv (.int i) (.int j) = (i == j) := by rw [PyData.eqv]
@[simp] theorem eqv_bool (i j : Bool) : PyData.eqv (.bool i) (.bool j) = (i == j) := by rw [PyData.eqv]
theorem eqvAll_map {α : Type} [DecidableEq α] {f : α → PyData} (h : ∀ a b, PyData.eqv (f a) (f b) = decide (a = b)) : ∀ xs ys : List α, PyData.eqvAll (xs.map f) (ys.map f) = decide (xs = ys)
  | [], [] => by rw [List.map_nil, PyData.eqvAll]; rfl
  | [], y :: ys => by rw [List.map_nil, List.map_cons, PyData.eqvAll]; rfl
  | x :: xs, [] => by rw [List.map_nil, List.map_cons, PyData.eqvAll]; rfl
  | x :: xs, y :: ys => by
    rw [List.map_cons, List.map_cons, PyData.eqvAll, h, eqvAll_map h xs ys]
    by_cases h1 : x = y <;> by_cases h2 : xs = ys <;> simp [h1, h2]
@[simp] theorem eqv_tu (a b : List Int) : PyData.eqv (tu a) (tu b) = decide (a = b) := by
  unfold tu; rw [PyData.eqv]
  exact eqvAll_map (fun i j => by rw [eqv_int]; rfl) a b
@[simp] theorem eqv_li (a b : List Int) : PyData.eqv (li a) (li b) = decide (a = b) := by
  unfold li; rw [PyData.eqv]
  exact eqvAll_map (fun i j => by rw [eqv_int]; rfl) a b
@[simp] theorem eqv_tt (a b : List (List Int)) : PyData.eqv (tt a) (tt b) = decide (a = b) := by
  unfold tt; rw [PyData.eqv]
  exact eqvAll_map eqv_tu a b
@[simp] theorem eqv_lt (a b : List (List Int)) : PyData.eqv (lt a) (lt b) = decide (a = b) := by
  unfold lt; rw [PyData.eqv]
  exact eqvAll_map eqv_tu a b
@[simp] theorem inD_ints (x : Int) (l : List Int) : inD (.int x) (l.map .int) = decide (x ∈ l) := by
  unfold inD
  induction l with
  | nil => rfl
  | cons y r ih =>
    rw [List.map_cons, List.any_cons, ih, eqv_int]
    by_cases h : y = x
    · subst h; simp
    · have h' : ¬ x = y := fun e => h e.symm
      simp [h, h']
@[simp] theorem inD_tus (x : List Int) (l : List (List Int)) : inD (tu x) (l.map tu) = decide (x ∈ l) := by
  unfold inD
  induction l with
  | nil => rfl
  | cons y r ih =>
    rw [List.map_cons, List.any_cons, ih, eqv_tu]
    by_cases h : y = x
    · subst h; simp
    · have h' : ¬ x = y := fun e => h e.symm
      simp [h, h']
@[simp] theorem oEq_int (i j : Int) : oEq (.int i) (.int j) = .ok (.bool (i == j)) := by simp [oEq]
@[simp] theorem oNe_int (i j : Int) : oNe (.int i) (.int j) = .ok (.bool (!(i == j))) := by simp [oNe]
@[simp] theorem oEq_bool (i j : Bool) : oEq (.bool i) (.bool j) = .ok (.bool (i == j)) := by simp [oEq]
@[simp] theorem oNe_bool (i j : Bool) : oNe (.bool i) (.bool j) = .ok (.bool (!(i == j))) := by simp [oNe]
@[simp] theorem oEq_tu (a b : List Int) : oEq (tu a) (tu b) = .ok (.bool (decide (a = b))) := by simp [oEq]
@[simp] theorem oNe_tu (a b : List Int) : oNe (tu a) (tu b) = .ok (.bool (!decide (a = b))) := by simp [oNe]
@[simp] theorem oEq_tt (a b : List (List Int)) : oEq (tt a) (tt b) = .ok (.bool (decide (a = b))) := by simp [oEq]
@[simp] theorem oNe_tt (a b : List (List Int)) : oNe (tt a) (tt b) = .ok (.bool (!decide (a = b))) := by simp [oNe]
@[simp] theorem oIn_tu (i : Int) (l : List Int) : oIn (.int i) (tu l) = .ok (.bool (decide (i ∈ l))) := by simp [oIn]
@[simp] theorem oNotIn_tu (i : Int) (l : List Int) : oNotIn (.int i) (tu l) = .ok (.bool (!decide (i ∈ l))) := by simp [oNotIn]
@[simp] theorem oIn_li (i : Int) (l : List Int) : oIn (.int i) (li l) = .ok (.bool (decide (i ∈ l))) := by simp [oIn]
@[simp] theorem oNotIn_li (i : Int) (l : List Int) : oNotIn (.int i) (li l) = .ok (.bool (!decide (i ∈ l))) := by simp [oNotIn]
@[simp] theorem oIn_tt (i : List Int) (l : List (List Int)) : oIn (tu i) (tt l) = .ok (.bool (decide (i ∈ l))) := by simp [oIn]
@[simp] theorem oIn_lt (i : List Int) (l : List (List Int)) : oIn (tu i) (lt l) = .ok (.bool (decide (i ∈ l))) := by simp [oIn]
@[simp] theorem oNotIn_lt (i : List Int) (l : List (List Int)) : oNotIn (tu i) (lt l) = .ok (.bool (!decide (i ∈ l))) := by simp [oNotIn]
@[simp] theorem oAdd_int (i j : Int) : oAdd (.int i) (.int j) = .ok (.int (i + j)) := rfl
@[simp] theorem oSub_int (i j : Int) : oSub (.int i) (.int j) = .ok (.int (i - j)) := rfl
@[simp] theorem oLt_int (i j : Int) : oLt (.int i) (.int j) = .ok (.bool (decide (i < j))) := rfl
@[simp] theorem oLe_int (i j : Int) : oLe (.int i) (.int j) = .ok (.bool (decide (i ≤ j))) := rfl
@[simp] theorem oGt_int (i j : Int) : oGt (.int i) (.int j) = .ok (.bool (decide (j < i))) := rfl
@[simp] theorem oGe_int (i j : Int) : oGe (.int i) (.int j) = .ok (.bool (decide (j ≤ i))) := rfl
theorem oMul_int {i j : Int} (h : CMul i j) : oMul (.int i) (.int j) = .ok (.int (i * j)) := if_pos h
theorem oMod_int {i j : Int} (h : j ≠ 0) : oMod (.int i) (.int j) = .ok (.int (i.fmod j)) := if_pos h
theorem oDiv_int {i j : Int} (h : CDivN i j) : oDiv (.int i) (.int j) = .ok (.int (i.fdiv j)) := if_pos h
theorem oAdd_tu {a b : List Int} (h : a.length + b.length ≤ 100000) : oAdd (tu a) (tu b) = .ok (tu (a ++ b)) := by
  have e : oAdd (.tuple (a.map PyData.int)) (.tuple (b.map PyData.int)) = .ok (.tuple (a.map PyData.int ++ b.map PyData.int)) := if_pos (by rw [List.length_map, List.length_map, sizeLine_eq]; omega)
  rw [← List.map_append] at e
  exact e
theorem oAdd_lt {a b : List (List Int)} (h : a.length + b.length ≤ 100000) : oAdd (lt a) (lt b) = .ok (lt (a ++ b)) := by
  have e : oAdd (.list (a.map tu)) (.list (b.map tu)) = .ok (.list (a.map tu ++ b.map tu)) := if_pos (by rw [List.length_map, List.length_map, sizeLine_eq]; omega)
  rw [← List.map_append] at e
  exact e
theorem atI_get {α β : Type} (f : α → β) {xs : List α} {i : Int} (h0 : 0 ≤ i) {x : α} (h : xs[i.toNat]? = some x) : atI (xs.map f) i = some (f x) := by
  have hl := (List.getElem?_eq_some_iff.mp h).1
  unfold atI ixN
  rw [if_pos h0, if_pos (by rw [List.length_map]; omega)]
  show (xs.map f)[i.toNat]? = _
  rw [List.getElem?_map, h]; rfl
theorem oIx_li {l : List Int} {i x : Int} (h0 : 0 ≤ i) (h : l[i.toNat]? = some x) : oIx (li l) (.int i) = .ok (.int x) := by
  show (match atI (l.map PyData.int) i with | some d => R.ok d | none => .bad) = _
  rw [atI_get _ h0 h]
theorem oIx_tu {l : List Int} {i x : Int} (h0 : 0 ≤ i) (h : l[i.toNat]? = some x) : oIx (tu l) (.int i) = .ok (.int x) := by
  show (match atI (l.map PyData.int) i with | some d => R.ok d | none => .bad) = _
  rw [atI_get _ h0 h]
theorem oIx_lt {l : List (List Int)} {i : Int} {x : List Int} (h0 : 0 ≤ i) (h : l[i.toNat]? = some x) : oIx (lt l) (.int i) = .ok (tu x) := by
  show (match atI (l.map tu) i with | some d => R.ok d | none => .bad) = _
  rw [atI_get _ h0 h]
theorem oIx_tt {l : List (List Int)} {i : Int} {x : List Int} (h0 : 0 ≤ i) (h : l[i.toNat]? = some x) : oIx (tt l) (.int i) = .ok (tu x) := by
  show (match atI (l.map tu) i with | some d => R.ok d | none => .bad) = _
  rw [atI_get _ h0 h]
@[simp] theorem oIx_pair0 (a b : PyData) : oIx (.tuple [a, b]) (.int 0) = .ok a := rfl
@[simp] theorem oIx_pair1 (a b : PyData) : oIx (.tuple [a, b]) (.int 1) = .ok b := rfl
@[simp] theorem bLen_tu (l : List Int) : bLen [tu l] = .ok (.int l.length) := by simp [bLen]
@[simp] theorem bLen_li (l : List Int) : bLen [li l] = .ok (.int l.length) := by simp [bLen]
@[simp] theorem bLen_lt (l : List (List Int)) : bLen [lt l] = .ok (.int l.length) := by simp [bLen]
@[simp] theorem bLen_tt (l : List (List Int)) : bLen [tt l] = .ok (.int l.length) := by simp [bLen]
@[simp] theorem bInt_int (i : Int) : bInt [.int i] = .ok (.int i) := rfl
@[simp] theorem bTuple_li (l : List Int) : bTuple [li l] = .ok (tu l) := rfl
@[simp] theorem bTuple_tu (l : List Int) : bTuple [tu l] = .ok (tu l) := rfl
@[simp] theorem bTuple_lt (l : List (List Int)) : bTuple [lt l] = .ok (tt l) := rfl
@[simp] theorem bTuple_tt (l : List (List Int)) : bTuple [tt l] = .ok (tt l) := rfl
@[simp] theorem bList_li (l : List Int) : bList [li l] = .ok (li l) := rfl
@[simp] theorem bList_tu (l : List Int) : bList [tu l] = .ok (li l) := rfl
@[simp] theorem bList_lt (l : List (List Int)) : bList [lt l] = .ok (lt l) := rfl
@[simp] theorem bList_tt (l : List (List Int)) : bList [tt l] = .ok (lt l) := rfl
@[simp] theorem asInts_map : ∀ l : List Int, asInts (l.map .int) = some l
  | [] => rfl
  | x :: r => by rw [List.map_cons, asInts, asInts_map r]; rfl
@[simp] theorem asBools_map : ∀ l : List Bool, asBools (l.map .bool) = some l
  | [] => rfl
  | x :: r => by rw [List.map_cons, asBools, asBools_map r]; rfl
theorem asBools_map' {α : Type} (f : α → Bool) (l : List α) : asBools (l.map fun x => PyData.bool (f x)) = some (l.map f) := by
  have := asBools_map (l.map f)
  rw [List.map_map] at this
  exact this
@[simp] theorem bAny_map {α : Type} (f : α → Bool) (l : List α) : bAny [.list (l.map fun x => PyData.bool (f x))] = .ok (.bool (l.any f)) := by
  show ofO (asBools (l.map fun x => PyData.bool (f x))) (fun ns => R.ok (PyData.bool (ns.any id))) = _
  rw [asBools_map']
  show R.ok (PyData.bool ((l.map f).any id)) = _
  rw [List.any_map]; rfl
@[simp] theorem bAll_map {α : Type} (f : α → Bool) (l : List α) : bAll [.list (l.map fun x => PyData.bool (f x))] = .ok (.bool (l.all f)) := by
  show ofO (asBools (l.map fun x => PyData.bool (f x))) (fun ns => R.ok (PyData.bool (ns.all id))) = _
  rw [asBools_map']
  show R.ok (PyData.bool ((l.map f).all id)) = _
  rw [List.all_map]; rfl
theorem bMax_li {l : List Int} (h : l ≠ []) : bMax [li l] = .ok (.int (maxI l)) := by
  show ofO (asInts (l.map PyData.int)) (fun ns => if 0 < ns.length then R.ok (PyData.int (maxI ns)) else .bad) = _
  rw [asInts_map]
  exact if_pos (List.length_pos_iff.mpr h)
@[simp] theorem bSum_li (l : List Int) : bSum [li l] = .ok (.int l.sum) := by
  show ofO (asInts (l.map PyData.int)) (fun ns => R.ok (PyData.int ns.sum)) = _
  rw [asInts_map]; rfl
theorem isi_int (i : Int) : oIsi "int" (.int i) = .ok (.bool true) := by
  have : isiD "int" (.int i) = some true := by show kitB "int" "int" = _; decide +kernel
  unfold oIsi; rw [this]
theorem isi_bool (i : Int) : oIsi "bool" (.int i) = .ok (.bool false) := by
  have : isiD "bool" (.int i) = some false := by show kitB "int" "bool" = _; decide +kernel
  unfold oIsi; rw [this]
theorem isi_tuple (l : List PyData) : oIsi "tuple" (.tuple l) = .ok (.bool true) := by
  have : isiD "tuple" (.tuple l) = some true := by show kitB "tuple" "tuple" = _; decide +kernel
  unfold oIsi; rw [this]
theorem isi_tu (l : List Int) : oIsi "tuple" (tu l) = .ok (.bool true) := isi_tuple _
theorem isi_tt (l : List (List Int)) : oIsi "tuple" (tt l) = .ok (.bool true) := isi_tuple _
end PD
set_option Elab.async false
set_option linter.all false
set_option maxRecDepth 100000
set_option maxHeartbeats 1000000
namespace PD
open PySem PySem.Spec PyProof.Rows L2
def varR : Option (Option Sl) → R PyData
  | some (some (.d x)) => .ok x
  | _ => .bad
@[simp] theorem varR_d (x : PyData) : varR (some (some (.d x))) = .ok x := rfl
@[simp] theorem ev_var (i : Nat) (ρ : Rho) : dVar i ρ = varR ρ[i]? := rfl
@[simp] theorem ev_c (x : PyData) (ρ : Rho) : dC x ρ = .ok x := rfl
@[simp] theorem ev_one (u : PyData → R PyData) (f : Dn) (ρ : Rho) : dOne u f ρ = (f ρ >>= u) := rfl
@[simp] theorem ev_two (u : PyData → PyData → R PyData) (f g : Dn) (ρ : Rho) : dTwo u f g ρ = (f ρ >>= fun a => g ρ >>= fun b => u a b) := rfl
@[simp] theorem ev_nil (ρ : Rho) : dNil ρ = .ok [] := rfl
@[simp] theorem ev_cons (f : Dn) (g : DnL) (ρ : Rho) : dCons f g ρ = (f ρ >>= fun a => g ρ >>= fun b => .ok (a :: b)) := rfl
@[simp] theorem ev_arg (m : List PyData → R PyData) (g : DnL) (ρ : Rho) : dArg m g ρ = (g ρ >>= m) := rfl
def tupR (xs : List PyData) : R PyData := if xs.length ≤ sizeLine then .ok (.tuple xs) else .bad
def lstR (xs : List PyData) : R PyData := if xs.length ≤ sizeLine then .ok (.list xs) else .bad
theorem tupR_ok {xs : List PyData} (h : xs.length ≤ 100000) : tupR xs = .ok (.tuple xs) := if_pos (by rw [sizeLine_eq]; omega)
theorem lstR_ok {xs : List PyData} (h : xs.length ≤ 100000) : lstR xs = .ok (.list xs) := if_pos (by rw [sizeLine_eq]; omega)
@[simp] theorem tupR_0 : tupR [] = .ok (.tuple []) := tupR_ok (by decide)
@[simp] theorem tupR_1 (a : PyData) : tupR [a] = .ok (.tuple [a]) := tupR_ok (by show 1 ≤ 100000; decide)
@[simp] theorem tupR_2 (a b : PyData) : tupR [a, b] = .ok (.tuple [a, b]) := tupR_ok (by show 2 ≤ 100000; decide)
@[simp] theorem tupR_3 (a b c : PyData) : tupR [a, b, c] = .ok (.tuple [a, b, c]) := tupR_ok (by show 3 ≤ 100000; decide)
@[simp] theorem tupR_4 (a b c d : PyData) : tupR [a, b, c, d] = .ok (.tuple [a, b, c, d]) := tupR_ok (by show 4 ≤ 100000; decide)
@[simp] theorem tupR_5 (a b c d e : PyData) : tupR [a, b, c, d, e] = .ok (.tuple [a, b, c, d, e]) := tupR_ok (by show 5 ≤ 100000; decide)
@[simp] theorem tupR_6 (a b c d e f : PyData) : tupR [a, b, c, d, e, f] = .ok (.tuple [a, b, c, d, e, f]) := tupR_ok (by show 6 ≤ 100000; decide)
@[simp] theorem tupR_7 (a b c d e f g : PyData) : tupR [a, b, c, d, e, f, g] = .ok (.tuple [a, b, c, d, e, f, g]) := tupR_ok (by show 7 ≤ 100000; decide)
@[simp] theorem tupR_8 (a b c d e f g h : PyData) : tupR [a, b, c, d, e, f, g, h] = .ok (.tuple [a, b, c, d, e, f, g, h]) := tupR_ok (by show 8 ≤ 100000; decide)
@[simp] theorem lstR_0 : lstR [] = .ok (.list []) := lstR_ok (by decide)
@[simp] theorem lstR_1 (a : PyData) : lstR [a] = .ok (.list [a]) := lstR_ok (by show 1 ≤ 100000; decide)
@[simp] theorem lstR_2 (a b : PyData) : lstR [a, b] = .ok (.list [a, b]) := lstR_ok (by show 2 ≤ 100000; decide)
@[simp] theorem lstR_3 (a b c : PyData) : lstR [a, b, c] = .ok (.list [a, b, c]) := lstR_ok (by show 3 ≤ 100000; decide)
@[simp] theorem ev_tup (g : DnL) (ρ : Rho) : dTup g ρ = (g ρ >>= tupR) := rfl
@[simp] theorem ev_lst (g : DnL) (ρ : Rho) : dLst g ρ = (g ρ >>= lstR) := rfl
@[simp] theorem tu_0 : PyData.tuple [] = tu [] := rfl
@[simp] theorem tu_1 (a : Int) : PyData.tuple [.int a] = tu [a] := rfl
@[simp] theorem tu_6 (a b c d e f : Int) : PyData.tuple [.int a, .int b, .int c, .int d, .int e, .int f] = tu [a, b, c, d, e, f] := rfl
@[simp] theorem tu_8 (a b c d e f g h : Int) : PyData.tuple [.int a, .int b, .int c, .int d, .int e, .int f, .int g, .int h] = tu [a, b, c, d, e, f, g, h] := rfl
@[simp] theorem li_3 (a b c : Int) : PyData.list [.int a, .int b, .int c] = li [a, b, c] := rfl
@[simp] theorem lt_1 (a : List Int) : PyData.list [tu a] = lt [a] := rfl
@[simp] theorem asB_bool (b : Bool) : asB (.bool b) = .ok b := rfl
@[simp] theorem asI_int (b : Int) : asI (.int b) = .ok b := rfl
@[simp] theorem ev_asB (f : Dn) (ρ : Rho) : dAsB f ρ = (f ρ >>= asB) := rfl
@[simp] theorem ev_and (f g : DnB) (ρ : Rho) : dAnd f g ρ = (f ρ >>= fun b => if b = true then g ρ else .ok false) := rfl
@[simp] theorem ev_or (f g : DnB) (ρ : Rho) : dOr f g ρ = (f ρ >>= fun b => if b = true then .ok true else g ρ) := rfl
@[simp] theorem ev_not (f : DnB) (ρ : Rho) : dNot f ρ = (f ρ >>= fun b => .ok (!b)) := rfl
@[simp] theorem ev_andV (f g : Dn) (ρ : Rho) : dAndV f g ρ = (f ρ >>= fun a => asB a >>= fun b => if b = true then g ρ else .ok (.bool false)) := rfl
@[simp] theorem ev_orV (f g : Dn) (ρ : Rho) : dOrV f g ρ = (f ρ >>= fun a => asB a >>= fun b => if b = true then .ok (.bool true) else g ρ) := rfl
@[simp] theorem ev_notV (f : Dn) (ρ : Rho) : dNotV f ρ = (f ρ >>= fun a => asB a >>= fun b => .ok (.bool (!b))) := rfl
@[simp] theorem ev_if (c : DnB) (f g : Dn) (ρ : Rho) : dIf c f g ρ = (c ρ >>= fun b => if b = true then f ρ else g ρ) := rfl
@[simp] theorem ev_cut (f : Dn) (l h : DnO) (ρ : Rho) : dCut f l h ρ = (f ρ >>= fun a => l ρ >>= fun l => h ρ >>= fun h => oCut a l h) := rfl
@[simp] theorem ev_noP (ρ : Rho) : dNoP ρ = .ok none := rfl
@[simp] theorem ev_part (f : Dn) (ρ : Rho) : dPart f ρ = (f ρ >>= fun a => asI a >>= fun i => .ok (some i)) := rfl
@[simp] theorem ev_yes (ρ : Rho) : dYes ρ = .ok true := rfl
@[simp] theorem ev_items (f : Dn) (ρ : Rho) : dItems f ρ = (f ρ >>= items) := rfl
@[simp] theorem ev_rng1 (g : DnL) (ρ : Rho) : dRng1 g ρ = (g ρ >>= rngA1) := rfl
@[simp] theorem ev_rng2 (g : DnL) (ρ : Rho) : dRng2 g ρ = (g ρ >>= rngA2) := rfl
@[simp] theorem ev_thawB (f : DnB) (ρ : Rho) : dThawB f ρ = nx (f (thaw ρ)) .ok := rfl
@[simp] theorem ev_thaw (f : Dn) (ρ : Rho) : dThaw f ρ = nx (f (thaw ρ)) fun d => if flat d = true then .ok d else .bad := rfl
def rangeI (lo hi : Int) : List Int := (List.range (hi - lo).toNat).map fun i => lo + (i : Nat)
theorem rngD_eq (lo : Int) (n : Nat) : rngD lo n = ((List.range n).map fun i => lo + (i : Nat)).map PyData.int := by unfold rngD; rw [List.map_map]; rfl
theorem rngA1_ok {n : Int} (h : n ≤ 100000) (h0 : -1000 ≤ n) : rngA1 [.int n] = .ok ((rangeI 0 n).map PyData.int) := by
  have e : rngA1 [.int n] = .ok (rngD 0 n.toNat) := if_pos ⟨by omega, by rw [sizeLine_eq]; omega⟩
  rw [e, rngD_eq]
  unfold rangeI
  rw [Int.sub_zero]
theorem mem_rangeI {lo hi x : Int} : x ∈ rangeI lo hi ↔ lo ≤ x ∧ x < hi := by
  unfold rangeI
  rw [List.mem_map]
  constructor
  · rintro ⟨i, hi', rfl⟩
    have := List.mem_range.mp hi'
    omega
  · intro ⟨h1, h2⟩
    exact ⟨(x - lo).toNat, List.mem_range.mpr (by omega), by omega⟩
theorem rangeI_len (lo hi : Int) : (rangeI lo hi).length = (hi - lo).toNat := by unfold rangeI; rw [List.length_map, List.length_range]
theorem rangeI_asc (lo hi : Int) : (rangeI lo hi).Pairwise (· < ·) := by
  unfold rangeI
  rw [List.pairwise_map]
  exact List.Pairwise.imp (fun h => by omega) List.pairwise_lt_range
theorem rangeI_get {lo hi : Int} {j : Nat} (h : j < (hi - lo).toNat) : (rangeI lo hi)[j]? = some (lo + (j : Nat)) := by
  unfold rangeI
  rw [List.getElem?_map, List.getElem?_range h]; rfl
def lcR {α β : Type} (p : α → R Bool) (f : α → R β) : List α → R (List β)
  | [] => .ok []
  | x :: xs => nx (p x) fun b => if b = true then nx (f x) fun y => nx (lcR p f xs) fun ys => .ok (y :: ys) else lcR p f xs
theorem lcGo_nm (i : Nat) (ft : DnB) (fe : Dn) (ρ : Rho) : ∀ ds : List PyData, lcGo (.nm i) ft fe ρ ds = lcR (fun d => ft (ρ.set i (some (.d d)))) (fun d => fe (ρ.set i (some (.d d)))) ds
  | [] => rfl
  | d :: ds => by
    show nx _ _ = nx _ _
    simp only [lcGo_nm i ft fe ρ ds]
@[simp] theorem lcR_map {α β γ : Type} (p : α → R Bool) (f : α → R β) (g : γ → α) : ∀ xs : List γ, lcR p f (xs.map g) = lcR (fun x => p (g x)) (fun x => f (g x)) xs
  | [] => rfl
  | x :: xs => by
    show nx _ _ = nx _ _
    simp only [lcR_map p f g xs]
@[simp] theorem lcR_ok {α β : Type} (p : α → Bool) (f : α → β) : ∀ xs : List α, lcR (fun x => .ok (p x)) (fun x => .ok (f x)) xs = .ok ((xs.filter p).map f)
  | [] => rfl
  | x :: xs => by
    show (if p x = true then nx (lcR _ _ xs) _ else lcR _ _ xs) = _
    rw [lcR_ok p f xs]
    cases h : p x <;> simp [h]
@[simp high] theorem lcR_all {α β : Type} (f : α → β) (xs : List α) : lcR (fun _ => .ok true) (fun x => .ok (f x)) xs = .ok (xs.map f) := by
  rw [lcR_ok (fun _ => true) f xs, List.filter_eq_self.mpr (fun _ _ => rfl)]
theorem lcR_of {α β : Type} {p : α → R Bool} {f : α → R β} {q : α → Bool} {g : α → β} : ∀ {xs : List α}, (∀ x ∈ xs, p x = .ok (q x) ∧ (q x = true → f x = .ok (g x))) → lcR p f xs = .ok ((xs.filter q).map g)
  | [], _ => rfl
  | x :: xs, h => by
    obtain ⟨h1, h2⟩ := h x List.mem_cons_self
    show nx (p x) _ = _
    rw [h1, lcR_of (xs := xs) fun y hy => h y (List.mem_cons_of_mem _ hy)]
    cases e : q x with
    | false => simp [e]
    | true => rw [h2 e]; simp [e]
@[simp] theorem ev_lc (fi : DnL) (i : Nat) (ft : DnB) (fe : Dn) (vs : List Nat) (ρ : Rho) : dLc fi (.nm i) ft fe vs ρ = (fi ρ >>= fun ds => nx (lcR (fun d => ft ((wipeR ρ vs).set i (some (.d d)))) (fun d => fe ((wipeR ρ vs).set i (some (.d d)))) ds) fun ys => .ok (.list ys)) := by
  show (fi ρ >>= fun ds => nx (lcGo (.nm i) ft fe (wipeR ρ vs) ds) fun ys => R.ok (PyData.list ys)) = _
  simp only [lcGo_nm]
@[simp] theorem wipe_0 (ρ : Rho) : wipeR ρ [] = ρ := rfl
@[simp] theorem wipe_1 (ρ : Rho) (v : Nat) (vs : List Nat) : wipeR ρ (v :: vs) = (wipeR ρ vs).set v none := rfl
def anyR {α : Type} (stop : Bool) (f : α → R PyData) : List α → R Bool
  | [] => .ok (!stop)
  | x :: xs => nx (f x) fun y => match y with
    | .bool c => if c = stop then .ok stop else anyR stop f xs
    | _ => .bad
theorem anyGo_nm (stop : Bool) (i : Nat) (fe : Dn) (ρ : Rho) : ∀ ds : List PyData, anyGo stop (.nm i) dYes fe ρ ds = anyR stop (fun d => fe (ρ.set i (some (.d d)))) ds
  | [] => rfl
  | d :: ds => by
    show nx (fe (ρ.set i (some (.d d)))) _ = nx (fe (ρ.set i (some (.d d)))) _
    cases fe (ρ.set i (some (.d d))) with
    | exc e => rfl
    | bad => rfl
    | ok y =>
      show (match y with | .bool c => if c = stop then R.ok stop else anyGo stop (.nm i) dYes fe ρ ds | _ => .bad) = _
      rw [anyGo_nm stop i fe ρ ds]
      cases y <;> rfl
@[simp] theorem ev_anyG (stop : Bool) (fi : DnL) (i : Nat) (fe : Dn) (vs : List Nat) (ρ : Rho) : dAnyG stop fi (.nm i) dYes fe vs ρ = (fi ρ >>= fun ds => nx (anyR stop (fun d => fe ((wipeR ρ vs).set i (some (.d d)))) ds) fun b => .ok (.bool b)) := by
  show (fi ρ >>= fun ds => nx (anyGo stop (.nm i) dYes fe (wipeR ρ vs) ds) fun b => R.ok (PyData.bool b)) = _
  simp only [anyGo_nm]
@[simp] theorem ite_ok {α : Type} (c : Prop) [Decidable c] (a b : α) : (if c then R.ok a else R.ok b) = R.ok (if c then a else b) := by split <;> rfl
@[simp] theorem ite_int (c : Prop) [Decidable c] (a b : Int) : (if c then PyData.int a else PyData.int b) = PyData.int (if c then a else b) := by split <;> rfl
@[simp] theorem ite_bool (c : Prop) [Decidable c] (a b : Bool) : (if c then PyData.bool a else PyData.bool b) = PyData.bool (if c then a else b) := by split <;> rfl
@[simp] theorem ite_tu (c : Prop) [Decidable c] (a b : List Int) : (if c then tu a else tu b) = tu (if c then a else b) := by split <;> rfl
def seqO (o : Out) (h : Sn) : Out := match o with
  | .nx ρ' => h ρ'
  | o => o
@[simp] theorem seqO_nx (ρ : Rho) (h : Sn) : seqO (.nx ρ) h = h ρ := rfl
@[simp] theorem seqO_rt (d : PyData) (h : Sn) : seqO (.rt d) h = .rt d := rfl
@[simp] theorem seqO_ct (ρ : Rho) (h : Sn) : seqO (.ct ρ) h = .ct ρ := rfl
@[simp] theorem seqO_bk (ρ : Rho) (h : Sn) : seqO (.bk ρ) h = .bk ρ := rfl
@[simp] theorem ev_seq (g h : Sn) (ρ : Rho) : gSeq g h ρ = seqO (g ρ) h := rfl
@[simp] theorem ev_skip (ρ : Rho) : gSkip ρ = .nx ρ := rfl
@[simp] theorem oR_ok {α : Type} (a : α) (ρ : Rho) (k : α → Out) : oR (.ok a) ρ k = k a := rfl
@[simp] theorem oO_some (ρ : Rho) : oO (some ρ) = .nx ρ := rfl
@[simp] theorem set_nm (i : Nat) (d : PyData) (ρ : Rho) : Tg.set (.nm i) d ρ = some (ρ.set i (some (.d d))) := by rw [Tg.set]
@[simp] theorem set_tp2 (i j : Nat) (a b : PyData) (ρ : Rho) : Tg.set (.tp [.nm i, .nm j]) (.tuple [a, b]) ρ = some ((ρ.set i (some (.d a))).set j (some (.d b))) := by
  simp [Tg.set, Tg.sets]
@[simp] theorem ev_set (f : Dn) (t : Tg) (ρ : Rho) : gSet f t ρ = oR (f ρ) ρ fun d => oO (t.set d ρ) := rfl
@[simp] theorem ev_ret (f : Dn) (ρ : Rho) : gRet f ρ = oR (f ρ) ρ .rt := rfl
@[simp] theorem ev_expr (f : Dn) (ρ : Rho) : gExpr f ρ = oR (f ρ) ρ fun _ => .nx ρ := rfl
@[simp] theorem ev_ifs (c : DnB) (g h : Sn) (ρ : Rho) : gIf c g h ρ = oR (c ρ) ρ fun b => if b = true then g ρ else h ρ := rfl
@[simp] theorem ev_for (fi : DnL) (t : Tg) (g : Sn) (ρ : Rho) : gFor fi t g ρ = oR (fi ρ) ρ fun ds => forGo t g ds ρ := rfl
def frzO (o : Option Rho) (g : Sn) : Out := match o with
  | some ρ' => g ρ'
  | none => .bad
@[simp] theorem frzO_some (ρ : Rho) (g : Sn) : frzO (some ρ) g = g ρ := rfl
@[simp] theorem ev_frz (i : Nat) (g : Sn) (ρ : Rho) : gFrz i g ρ = frzO (frz i ρ) g := rfl
def frzS (o : Option (Option Sl)) (ρ : Rho) (i : Nat) : Option Rho := match o with
  | some (some (.own ds)) => some (ρ.set i (some (.d (.list ds))))
  | _ => none
@[simp] theorem frzS_own (ds : List PyData) (ρ : Rho) (i : Nat) : frzS (some (some (.own ds))) ρ i = some (ρ.set i (some (.d (.list ds)))) := rfl
@[simp] theorem ev_frzs (i : Nat) (ρ : Rho) : frz i ρ = frzS ρ[i]? ρ i := rfl
def ownR (d : PyData) (ρ : Rho) (i : Nat) : Out := match d with
  | .list ds => .nx (ρ.set i (some (.own ds)))
  | _ => .bad
@[simp] theorem ownR_list (ds : List PyData) (ρ : Rho) (i : Nat) : ownR (.list ds) ρ i = .nx (ρ.set i (some (.own ds))) := rfl
@[simp] theorem ownR_li (l : List Int) (ρ : Rho) (i : Nat) : ownR (li l) ρ i = .nx (ρ.set i (some (.own (l.map .int)))) := rfl
@[simp] theorem ownR_lt (l : List (List Int)) (ρ : Rho) (i : Nat) : ownR (lt l) ρ i = .nx (ρ.set i (some (.own (l.map tu)))) := rfl
@[simp] theorem ev_own (f : Dn) (i : Nat) (ρ : Rho) : gOwn f i ρ = oR (f ρ) ρ fun d => ownR d ρ i := rfl
def ownA (o : Option (Option Sl)) (k : List PyData → Out) : Out := match o with
  | some (some (.own ds)) => k ds
  | _ => .bad
@[simp] theorem ownA_own (ds : List PyData) (k : List PyData → Out) : ownA (some (some (.own ds))) k = k ds := rfl
@[simp] theorem ev_app (i : Nat) (f : Dn) (ρ : Rho) : gApp i f ρ = ownA ρ[i]? fun ds => oR (f ρ) ρ fun d => if ds.length < sizeLine then .nx (ρ.set i (some (.own (ds ++ [d])))) else .bad := rfl
def thaw1 : Option Sl → Option Sl
  | some (.own ds) => some (.d (.list ds))
  | some (.dct ks) => some (.d (.dict (ks.map fun k => (.tuple (k.map .int), .bool true))))
  | some (.dk _) => none
  | s => s
@[simp] theorem thaw1_dct (ks : List (List Int)) : thaw1 (some (.dct ks)) = some (.d (.dict (ks.map fun k => (.tuple (k.map .int), .bool true)))) := rfl
@[simp] theorem thaw1_own (ds : List PyData) : thaw1 (some (.own ds)) = some (.d (.list ds)) := rfl
@[simp] theorem thaw1_d (d : PyData) : thaw1 (some (.d d)) = some (.d d) := rfl
@[simp] theorem thaw1_none : thaw1 none = none := rfl
@[simp] theorem thaw_nil : thaw [] = [] := rfl
@[simp] theorem thaw_cons (s : Option Sl) (r : Rho) : thaw (s :: r) = thaw1 s :: thaw r := rfl
@[simp] theorem endR_rt (d : PyData) : endR (.rt d) = .ok d := rfl
theorem line_lt {n : Nat} (h : n < 100000) : n < sizeLine := by rw [sizeLine_eq]; omega
/-- a for loop: S holds of what is left to walk -/
theorem forGo_inv {α : Type} {enc : α → PyData} {i : Nat} {g : Sn} (S : List α → Rho → Prop) (hs : ∀ x xs ρ, S (x :: xs) ρ → ∃ ρ', g (ρ.set i (some (.d (enc x)))) = .nx ρ' ∧ S xs ρ') :
    ∀ (xs : List α) (ρ : Rho), S xs ρ → ∃ ρ', forGo (.nm i) g (xs.map enc) ρ = .nx ρ' ∧ S [] ρ'
  | [], ρ, h => ⟨ρ, rfl, h⟩
  | x :: xs, ρ, h => by
    obtain ⟨ρ1, e1, h1⟩ := hs x xs ρ h
    obtain ⟨ρ2, e2, h2⟩ := forGo_inv S hs xs ρ1 h1
    refine ⟨ρ2, ?_, h2⟩
    rw [List.map_cons]
    unfold forGo
    rw [set_nm]
    show (match g (ρ.set i (some (.d (enc x)))) with | .nx ρ => forGo (.nm i) g (xs.map enc) ρ | .ct ρ => forGo (.nm i) g (xs.map enc) ρ | .bk ρ => .nx ρ | o => o) = _
    rw [e1]
    exact e2
@[simp] theorem bAbs_int (i : Int) : bAbs [.int i] = .ok (.int (if i < 0 then -i else i)) := rfl
@[simp] theorem bMin2_int (i j : Int) : bMin2 [.int i, .int j] = .ok (.int (if j < i then j else i)) := rfl
@[simp] theorem oPow_10_18 : oPow (.int 10) (.int 18) = .ok (.int 1000000000000000000) := by
  have h : CPow 10 18 := ⟨by decide, by decide, by decide⟩
  show (if CPow 10 18 then R.ok (PyData.int (10 ^ (18 : Int).toNat)) else .bad) = _
  rw [if_pos h]; rfl
theorem oMul_r {i j : Int} (h1 : -18446744073709551616 < j) (h2 : j < 18446744073709551616) : oMul (.int i) (.int j) = .ok (.int (i * j)) := oMul_int (.inr ⟨by omega, by omega⟩)
theorem oMul_l {i j : Int} (h1 : -18446744073709551616 < i) (h2 : i < 18446744073709551616) : oMul (.int i) (.int j) = .ok (.int (i * j)) := oMul_int (.inl ⟨by omega, by omega⟩)
theorem oDiv_lit {i j : Int} (h1 : j ≠ 0) (h2 : j.natAbs < 1073741824) : oDiv (.int i) (.int j) = .ok (.int (i.fdiv j)) := oDiv_int ⟨h1, h2⟩
theorem fmod_lo (a : Int) {b : Int} (h : 0 < b) : 0 ≤ a.fmod b := Int.fmod_nonneg_of_pos a h
theorem fmod_hi (a : Int) {b : Int} (h : 0 < b) : a.fmod b < b := Int.fmod_lt_of_pos a h
def unInt : PyData → Int
  | .int i => i
  | _ => 0
def unTu : PyData → List Int
  | .tuple l => l.map unInt
  | _ => []
theorem unTu_tu (l : List Int) : unTu (tu l) = l := by
  show (l.map PyData.int).map unInt = l
  rw [List.map_map]
  exact List.map_id'' (fun _ => rfl) l
theorem alike_ints : ∀ a b : List Int, PySem.W.alikeAll (a.map PyData.int) (b.map PyData.int) = true
  | [], _ => by rw [List.map_nil, PySem.W.alikeAll]
  | _ :: _, [] => by rw [List.map_nil, List.map_cons, PySem.W.alikeAll]
  | x :: a, y :: b => by
    rw [List.map_cons, List.map_cons, PySem.W.alikeAll, alike_ints a b, PySem.W.alike]; rfl
theorem okSort_tus (ls : List (List Int)) : okSort (ls.map tu) = true := by
  unfold okSort
  have h1 : allAlike (ls.map tu) = true := by
    unfold allAlike
    rw [List.all_eq_true]
    intro d hd
    rw [List.all_eq_true]
    intro e he
    obtain ⟨a, _, rfl⟩ := List.mem_map.mp hd
    obtain ⟨b, _, rfl⟩ := List.mem_map.mp he
    show PySem.W.alike (.tuple _) (.tuple _) = true
    rw [PySem.W.alike]
    exact alike_ints a b
  have h2 : allTup (ls.map tu) = true := by
    unfold allTup
    rw [List.all_eq_true]
    intro d hd
    obtain ⟨a, _, rfl⟩ := List.mem_map.mp hd
    rfl
  have h3 : ((ls.map tu).all fun d => decide (d.depth ≤ 60)) = true := by
    rw [List.all_eq_true]
    intro d hd
    obtain ⟨a, _, rfl⟩ := List.mem_map.mp hd
    exact decide_eq_true (Nat.le_trans (dep_tu a).2 (by decide))
  rw [h1, h2, h3]; rfl
def sortT (ls : List (List Int)) : List (List Int) := (sortD (ls.map tu)).map unTu
theorem sortD_tus (ls : List (List Int)) : sortD (ls.map tu) = (sortT ls).map tu ∧ (sortT ls).Perm ls := by
  have p : (sortD (ls.map tu)).Perm (ls.map tu) := List.mergeSort_perm _ _
  have all : ∀ d ∈ sortD (ls.map tu), tu (unTu d) = d := fun d hd => by
    obtain ⟨a, _, rfl⟩ := List.mem_map.mp (p.subset hd)
    rw [unTu_tu]
  refine ⟨?_, ?_⟩
  · unfold sortT
    rw [List.map_map]
    have e : ∀ l : List PyData, (∀ d ∈ l, tu (unTu d) = d) → l.map (tu ∘ unTu) = l := fun l h => by
      induction l with
      | nil => rfl
      | cons d r ih => rw [List.map_cons, ih fun x hx => h x (List.mem_cons_of_mem _ hx)]; show tu (unTu d) :: r = _; rw [h d List.mem_cons_self]
    exact (e _ all).symm
  · have q := p.map unTu
    rw [List.map_map] at q
    have e : ls.map (unTu ∘ tu) = ls := List.map_id'' (fun l => unTu_tu l) ls
    rw [e] at q
    exact q
@[simp] theorem bSorted_lt (ls : List (List Int)) : bSorted [lt ls] = .ok (lt (sortT ls)) := by
  have e : bSorted [.list (ls.map tu)] = .ok (.list (sortD (ls.map tu))) := if_pos (okSort_tus ls)
  rw [(sortD_tus ls).1] at e
  exact e
theorem mem_sortT {ls : List (List Int)} {l : List Int} : l ∈ sortT ls ↔ l ∈ ls := (sortD_tus ls).2.mem_iff
theorem sortT_perm (ls : List (List Int)) : (sortT ls).Perm ls := (sortD_tus ls).2
end PD
set_option Elab.async false
set_option linter.all false
set_option maxRecDepth 100000
set_option maxHeartbeats 1000000
namespace PD
open PySem PySem.Spec PyProof.Rows L2
def popO (d : PyData) (ds : List PyData) (ρ : Rho) (i : Nat) : Out := match d with
  | .int k => match seqIndex? k ds.length with
    | some j => if -(2 ^ 63) ≤ k ∧ k < 2 ^ 63 ∧ j < ds.length then .nx (ρ.set i (some (.own (ds.eraseIdx j)))) else .bad
    | none => .bad
  | _ => .bad
@[simp] theorem ev_popAt (i : Nat) (f : Dn) (ρ : Rho) : gPopAt i f ρ = ownA ρ[i]? fun ds => oR (f ρ) ρ fun d => popO d ds ρ i := rfl
@[simp] theorem flat_int (i : Int) : flat (.int i) = true := rfl
@[simp] theorem flat_bool (i : Bool) : flat (.bool i) = true := rfl
@[simp] theorem nx_bad {α β : Type} (k : α → R β) : nx .bad k = .bad := rfl
@[simp] theorem bLstR1_ok {n : Int} (h : rgOk 0 n = true) : bLstR1 (.int n) = .ok (li (rangeI 0 n)) := by
  have e : bLstR1 (.int n) = .ok (.list (lstRg 0 n)) := if_pos h
  rw [e]
  unfold lstRg li rangeI
  rw [List.map_map]; rfl
theorem rgOk_small {n : Int} (h : -1000 ≤ n) (h2 : n ≤ 100000) : rgOk 0 n = true := decide_eq_true ⟨by omega, by omega, by omega, by omega, by omega⟩
end PD
set_option Elab.async false
set_option linter.all false
set_option maxRecDepth 100000
set_option maxHeartbeats 1000000
namespace PD
open PySem PySem.Spec PyProof.Rows L2
theorem okSort_ints (l : List Int) : okSort (l.map PyData.int) = true := by
  unfold okSort
  have h1 : allAlike (l.map PyData.int) = true := by
    unfold allAlike
    rw [List.all_eq_true]
    intro d hd
    rw [List.all_eq_true]
    intro e he
    obtain ⟨a, _, rfl⟩ := List.mem_map.mp hd
    obtain ⟨b, _, rfl⟩ := List.mem_map.mp he
    rw [PySem.W.alike]
  have h2 : allNot (l.map PyData.int) = true := by
    unfold allNot
    rw [List.all_eq_true]
    intro d hd
    obtain ⟨a, _, rfl⟩ := List.mem_map.mp hd
    rfl
  have h3 : ((l.map PyData.int).all fun d => decide (d.depth ≤ 60)) = true := by
    rw [List.all_eq_true]
    intro d hd
    obtain ⟨a, _, rfl⟩ := List.mem_map.mp hd
    exact decide_eq_true (Nat.zero_le _)
  rw [h1, h2, h3, Bool.or_true]; rfl
def sortI (l : List Int) : List Int := (sortD (l.map PyData.int)).map unInt
theorem sortD_ints (l : List Int) : sortD (l.map PyData.int) = (sortI l).map PyData.int ∧ (sortI l).Perm l := by
  have p : (sortD (l.map PyData.int)).Perm (l.map PyData.int) := List.mergeSort_perm _ _
  have all : ∀ d ∈ sortD (l.map PyData.int), PyData.int (unInt d) = d := fun d hd => by
    obtain ⟨a, _, rfl⟩ := List.mem_map.mp (p.subset hd)
    rfl
  refine ⟨?_, ?_⟩
  · unfold sortI
    rw [List.map_map]
    have e : ∀ l : List PyData, (∀ d ∈ l, PyData.int (unInt d) = d) → l.map (PyData.int ∘ unInt) = l := fun l h => by
      induction l with
      | nil => rfl
      | cons d r ih => rw [List.map_cons, ih fun x hx => h x (List.mem_cons_of_mem _ hx)]; show PyData.int (unInt d) :: r = _; rw [h d List.mem_cons_self]
    exact (e _ all).symm
  · have q := p.map unInt
    rw [List.map_map] at q
    have e : l.map (unInt ∘ PyData.int) = l := List.map_id'' (fun _ => rfl) l
    rw [e] at q
    exact q
@[simp] theorem bSorted_li (l : List Int) : bSorted [li l] = .ok (li (sortI l)) := by
  have e : bSorted [.list (l.map .int)] = .ok (.list (sortD (l.map .int))) := if_pos (okSort_ints l)
  rw [(sortD_ints l).1] at e
  exact e
@[simp] theorem bSorted_tu (l : List Int) : bSorted [tu l] = .ok (li (sortI l)) := by
  have e : bSorted [.tuple (l.map .int)] = .ok (.list (sortD (l.map .int))) := if_pos (okSort_ints l)
  rw [(sortD_ints l).1] at e
  exact e
theorem mem_sortI {l : List Int} {x : Int} : x ∈ sortI l ↔ x ∈ l := (sortD_ints l).2.mem_iff
@[simp] theorem asTu_tu (l : List Int) : asTu (tu l) = some l := asInts_ints l
theorem keysOf_keyD (ks : List (List Int)) : keysOf (ks.map keyD) = ks.map some := by
  unfold keysOf
  rw [List.map_map]
  exact List.map_congr_left fun k _ => asInts_ints k
theorem marked_keyD (ks : List (List Int)) : marked (ks.map keyD) = false := by cases ks <;> rfl
@[simp] theorem oInT_tu (k : List Int) (ks : List (List Int)) : oInT (tu k) (.dict (ks.map keyD)) = .ok (.bool (decide (k ∈ ks))) := by
  show (match asTu (tu k) with | some k => if marked (ks.map keyD) = true then R.bad else R.ok (PyData.bool (decide (some k ∈ keysOf (ks.map keyD)))) | none => .bad) = _
  rw [asTu_tu, keysOf_keyD]
  show (if marked (ks.map keyD) = true then R.bad else R.ok (PyData.bool (decide (some k ∈ ks.map some)))) = _
  rw [if_neg (by rw [marked_keyD]; simp)]
  show R.ok (PyData.bool (decide (some k ∈ ks.map some))) = _
  congr 2
  by_cases h : k ∈ ks <;> simp [h]
def insK (acc : List (List Int)) (k : List Int) : List (List Int) := if k ∈ acc then acc else acc ++ [k]
theorem mem_insK {acc : List (List Int)} {k x : List Int} : x ∈ insK acc k ↔ x ∈ acc ∨ x = k := by
  unfold insK
  split
  · constructor
    · exact .inl
    · rintro (h | rfl)
      · exact h
      · assumption
  · rw [List.mem_append, List.mem_singleton]
theorem mem_foldK {x : List Int} : ∀ {ks acc : List (List Int)}, x ∈ ks.foldl insK acc ↔ x ∈ acc ∨ x ∈ ks
  | [], acc => by simp
  | k :: ks, acc => by
    rw [List.foldl_cons, mem_foldK, mem_insK, List.mem_cons]
    constructor
    · rintro ((h | h) | h)
      · exact .inl h
      · exact .inr (.inl h)
      · exact .inr (.inr h)
    · rintro (h | h | h)
      · exact .inl (.inl h)
      · exact .inl (.inr h)
      · exact .inr h
theorem dcGo_all {α : Type} {enc : α → PyData} {kf : α → List Int} {i : Nat} {fk : Dn} {ρ : Rho} : ∀ {xs : List α} {acc : List (List Int)}, (∀ x ∈ xs, fk (ρ.set i (some (.d (enc x)))) = .ok (tu (kf x))) → dcGo (.nm i) dYes fk ρ (xs.map enc) acc = .ok ((xs.map kf).foldl insK acc)
  | [], _, _ => rfl
  | x :: xs, acc, h => by
    have e : dcGo (.nm i) dYes fk ρ ((x :: xs).map enc) acc = nx (fk (ρ.set i (some (.d (enc x))))) fun y => (match asTu y with
        | some k => dcGo (.nm i) dYes fk ρ (xs.map enc) (if k ∈ acc then acc else acc ++ [k])
        | none => .bad) := by
      rw [List.map_cons]
      conv => lhs; unfold dcGo
      rw [set_nm]
      first | done | rfl
    rw [e, h x List.mem_cons_self]
    show (match asTu (tu (kf x)) with | some k => dcGo (.nm i) dYes fk ρ (xs.map enc) (if k ∈ acc then acc else acc ++ [k]) | none => .bad) = _
    rw [asTu_tu]
    show dcGo (.nm i) dYes fk ρ (xs.map enc) (insK acc (kf x)) = _
    rw [dcGo_all fun y hy => h y (List.mem_cons_of_mem _ hy)]
    rfl
@[simp] theorem oIx_t0 (a b c : PyData) : oIx (.tuple [a, b, c]) (.int 0) = .ok a := rfl
@[simp] theorem oIx_t1 (a b c : PyData) : oIx (.tuple [a, b, c]) (.int 1) = .ok b := rfl
@[simp] theorem oIx_t2 (a b c : PyData) : oIx (.tuple [a, b, c]) (.int 2) = .ok c := rfl
end PD
set_option Elab.async false
set_option linter.all false
set_option maxRecDepth 100000
set_option maxHeartbeats 1000000
namespace PD
open PySem PySem.Spec PyProof.Rows L2 NtL
theorem dataLt_tu : ∀ a b : List Int, PySem.W.dataLt (tu a) (tu b) = HT.lexLt a b
  | [], [] => by rfl
  | [], y :: b => by
    show PySem.W.dataLt (.tuple []) (.tuple (.int y :: b.map .int)) = true
    rw [PySem.W.dataLt_tuple]
    rfl
  | x :: a, [] => by
    show PySem.W.dataLt (.tuple (.int x :: a.map .int)) (.tuple []) = false
    rw [PySem.W.dataLt_tuple]
    rfl
  | x :: a, y :: b => by
    have ih := dataLt_tu a b
    show PySem.W.dataLt (.tuple (.int x :: a.map .int)) (.tuple (.int y :: b.map .int)) = _
    change PySem.W.dataLt (.tuple (a.map .int)) (.tuple (b.map .int)) = _ at ih
    rw [PySem.W.dataLt_tuple] at ih
    rw [PySem.W.dataLt_tuple, PySem.W.dataLt_cons (by rfl), ih, PySem.W.dataLt_int, HT.lexLt_cons]
    by_cases e : x = y
    · rw [if_pos e, if_pos (by subst e; simp [PyData.eqv])]
    · rw [if_neg e, if_neg (by simp [PyData.eqv, e])]
theorem leT_total (a b : List Int) : (leT a b || leT b a) = true := by
  unfold leT
  cases e : HT.lexLt b a with
  | false => rfl
  | true => rw [lex_asym b a e]; rfl
theorem leT_trans (a b c : List Int) (h1 : leT a b = true) (h2 : leT b c = true) : leT a c = true := by
  unfold leT at *
  have e1 : HT.lexLt b a = false := by simpa using h1
  have e2 : HT.lexLt c b = false := by simpa using h2
  rw [lex_tr a b c e1 e2]
  rfl
theorem lex_ne : ∀ a b : List Int, HT.lexLt a b = false → HT.lexLt b a = false → a = b
  | [], [], _, _ => rfl
  | [], _ :: _, h, _ => by cases h
  | _ :: _, [], _, h => by cases h
  | x :: a, y :: b, h1, h2 => by
    rw [HT.lexLt_cons] at h1 h2
    by_cases e : x = y
    · rw [if_pos e] at h1
      rw [if_pos e.symm] at h2
      rw [e, lex_ne a b h1 h2]
    · rw [if_neg e] at h1
      rw [if_neg (Ne.symm e)] at h2
      have a := of_decide_eq_false h1
      have b := of_decide_eq_false h2
      omega
theorem sortT_eq (ls : List (List Int)) : sortT ls = ls.mergeSort leT := by
  have h : sortD (ls.map tu) = (ls.mergeSort leT).map tu := by
    unfold sortD
    refine (List.map_mergeSort (f := tu) (r := leT) (s := PySem.W.dataLe false id) (l := ls) fun a _ b _ => ?_).symm
    show leT a b = !(PySem.W.dataLt (tu b) (tu a))
    rw [dataLt_tu]
    rfl
  unfold sortT
  rw [h, List.map_map]
  exact List.map_id'' (fun l => unTu_tu l) _
theorem sortT_le (ls : List (List Int)) : (sortT ls).Pairwise fun a b => leT a b = true := by
  rw [sortT_eq]
  exact List.pairwise_mergeSort leT_trans leT_total ls
/-- rows in strictly ascending order -/
def Asd (ls : List (List Int)) : Prop := ls.Pairwise fun a b => HT.lexLt a b = true
theorem asd_of {ls : List (List Int)} (h : ls.Pairwise fun a b => leT a b = true) (n : ls.Nodup) : Asd ls := by
  refine (h.and n).imp fun {a b} ⟨h1, h2⟩ => ?_
  cases e : HT.lexLt a b with
  | true => rfl
  | false =>
    unfold leT at h1
    exact absurd (lex_ne a b e (by simpa using h1)) h2
theorem asd_sortT {ls : List (List Int)} (n : ls.Nodup) : Asd (sortT ls) := asd_of (sortT_le ls) ((sortT_perm ls).nodup_iff.mpr n)
theorem lex_irr (a : List Int) : HT.lexLt a a = false := by
  cases e : HT.lexLt a a with
  | false => rfl
  | true =>
    have z := lex_asym a a e
    rw [e] at z
    exact z
theorem Asd.nodup {ls : List (List Int)} (h : Asd ls) : ls.Nodup := h.imp fun {a b} e z => by
  subst z
  rw [lex_irr] at e
  cases e
end PD
set_option Elab.async false
set_option linter.all false
set_option maxRecDepth 100000
set_option maxHeartbeats 1000000
namespace PD
open PySem PySem.Spec PyProof.Rows L2
section
variable {X : Cx} {pins : List (Addr × Obj)} {σ : L2.St} {H : Hp} {s : Shared} {E : Value → Shared → Prop}
theorem addT_ok {D x : Addr} {L : List (Addr × List Int)} {k : List Int} {Q : Value → Shared → Prop} (hu : X.A.units + 64 < cLine) (I : Inv X pins σ H s) (hD : H D = some (SetTO X.prog X.w D L)) (hL : ∀ p ∈ L, SqT X.K H p.1 (p.2.map V.int)) (hx : SqT X.K H x (k.map V.int)) (few : L.length + 1 < 64)
    (h : ∀ s' L', Inv X pins σ (upd H D (SetTO X.prog X.w D L')) s' → (k ∈ L.map (·.2) → L' = L) → (k ∉ L.map (·.2) → L'.Perm ((x, k) :: L)) → Q .none s') : wpAny (model X.prog X.w) X.A (call (.builtin "set.add") [.ref D, .ref x]) Q E s := by
  obtain ⟨es, ep, t, R⟩ := SetT0.full (I.hok D _ hD).1 fun p hp => I.isT (hL p hp)
  have ty : s.TypeIs (.ref D) "set" := let ⟨o, ho, hc, _⟩ := R.ob; ⟨o, ho, hc.1⟩
  have kx := I.isT hx
  refine wpAny_call_entry F.slot_set_add ty F.entry_set_add ?_ (F.args_set_add_2 _ _)
  unfold Builtin.«set.add» Builtin.Frozenset.oneOther Builtin.Frozenset.addrOf setAdd
  simp only [bind_assoc, List.isEmpty_nil]
  refine wpAny_bind (wpAny_pure ?_)
  try dsimp only
  refine wpAny_bind (wpAny_pure ?_)
  try dsimp only
  refine wpAny_bind (wpAny_holding ?_)
  refine wpAny_bind (wpAny_pyHash_tuple (knd := intKind X.prog X.w) (show X.A.in1.units < cLine from (show X.A.units + 1 < cLine by omega)) kx ?_)
  refine add_at (P := X.prog) (w := X.w) (s := { s with toks := s.toks + (k.length + 1) }) R kx (show X.A.in1.units < cLine from (show X.A.units + 1 < cLine by omega)) few fun b h' L' es' ep' t' sb R' e1 e2 => ?_
  show wpAny (model X.prog X.w) _ (ret Value.none) _ _ _
  have he : ∃ u, h'.get? D = some u := let ⟨o, ho, _⟩ := R'.ob; ⟨o, ho⟩
  exact wpAny_pure ⟨_, rfl, h _ L' (I.write (e := D) (t' := s.toks + (k.length + 1)) (by rw [hD]; trivial) (.inl rfl) (fun b u hb hu => (sb.2 b hb).trans hu) he (setTO_new R'.t0)) e1 e2⟩
end
section
variable {X : Cx} {pins : List (Addr × Obj)} {σ : L2.St} {vs : List Nat} {s0 : Shared} {H0 : Hp} {scope : Scope} {fp : List Addr} {tn : Nat → Heap → Prop} {J : It} {tg : Expr} {it : Addr}
/-- what the rule asks of a turn -/
def memTurn (K : PySem.W.Frag) (P : Program) (w : World) (σ : L2.St) (vs : List Nat) (g : TG) (tt : TT) (tk : TE) (D : Addr) (Nx : Hp → Prop) (x : V) (H : Hp) : Prop :=
  g x (L2.wipe σ vs) H fun σ2 H2 => L2.wipe σ2 vs = L2.wipe σ vs ∧ tt σ2 H2 fun b H3 =>
    if b = true then tk σ2 H3 fun y H4 => ∃ L p k, y = .ref p ∧ H4 D = some (SetTO P w D L) ∧ (∀ q ∈ L, SqT K H4 q.1 (q.2.map V.int)) ∧ L.length + 1 < 64 ∧ SqT K H4 p (k.map V.int) ∧ ∀ L', (k ∈ L.map (·.2) → L' = L) → (k ∉ L.map (·.2) → L'.Perm ((p, k) :: L)) → Nx (upd H4 D (SetTO P w D L')) else Nx H3
end
end PD
set_option Elab.async false
set_option linter.all false
set_option maxRecDepth 100000
set_option maxHeartbeats 1000000
namespace PD
open PySem PySem.Spec PyProof.Rows L2
theorem perm_map_inv {α β : Type} (f : α → β) {ws vs : List β} (h : ws.Perm vs) : ∀ {L : List α}, ws = L.map f → ∃ L1 : List α, L1.Perm L ∧ vs = L1.map f := by
  induction h with
  | nil =>
    intro L e
    have : L = [] := List.map_eq_nil_iff.mp e.symm
    subst this
    exact ⟨[], .refl _, rfl⟩
  | cons x _ ih =>
    intro L e
    obtain ⟨y, ys, rfl, rfl, e2⟩ := List.map_eq_cons_iff.mp e.symm
    obtain ⟨L1, p1, e1⟩ := ih e2.symm
    exact ⟨y :: L1, p1.cons y, by rw [e1]; rfl⟩
  | swap x y l =>
    intro L e
    obtain ⟨a, as, rfl, rfl, e2⟩ := List.map_eq_cons_iff.mp e.symm
    obtain ⟨b, bs, rfl, rfl, e3⟩ := List.map_eq_cons_iff.mp e2
    exact ⟨b :: a :: bs, .swap a b bs, by rw [← e3]; rfl⟩
  | trans _ _ ih1 ih2 =>
    intro L e
    obtain ⟨L1, p1, e1⟩ := ih1 e
    obtain ⟨L2, p2, e2⟩ := ih2 e1
    exact ⟨L2, p2.trans p1, e2⟩
def tuD (q : Addr × List Int) : PyData := .tuple (q.2.map .int)
theorem rp_tups {K : PySem.W.Frag} {G : Hp} : ∀ {L : List (Addr × List Int)}, (∀ q ∈ L, SqT K G q.1 (q.2.map V.int) ∧ q.2.length ≤ sizeLine) → RpAll K G (L.map fun q => V.ref q.1) (L.map tuD)
  | [], _ => .nil
  | q :: L, h => .cons (.tup (h q List.mem_cons_self).1 (by rw [List.length_map]; exact (h q List.mem_cons_self).2) (rp_intsV q.2)) (rp_tups fun r hr => h r (List.mem_cons_of_mem _ hr))
def rSortScT (K : PySem.W.Frag) (P : Program) (w : World) : List V → Hp → VK → Prop := fun vs H Q => ∃ (G : Hp) (a : Addr) (L : List (Addr × List Int)), vs = [V.ref a] ∧ Sub G H ∧ H a = some (SetTO P w a L) ∧ (∀ q ∈ L, SqT K G q.1 (q.2.map V.int) ∧ q.2.length ≤ sizeLine) ∧
  ∀ (p : Addr) (L1 : List (Addr × List Int)) (ys : List V), L1.Perm L → H p = none → ys.length < 64 → RpAll K G ys (sortD (L1.map tuD)) → Q (.ref p) (upd H p (.lst ys))
theorem cr_sortScT {X : Cx} (hc : X.calm = true) (hu : X.A.units + 64 < cLine) : CallR X (.builtin "sorted") (rSortScT X.K X.prog X.w) := by
  intro pins s σ H vs us Q I r h
  obtain ⟨G, a, L, rfl, sub, ha, hk, q⟩ := h
  rw [Vals.ref1 r]
  obtain ⟨es, ep, t, R⟩ := SetT0.full (I.hok a _ ha).1 fun p hp => I.isT (sub.sqT (hk p hp).1)
  obtain ⟨o, ho, hex, hd⟩ := R.ob
  have hsz := R.size
  have hfew := R.few
  refine Calls.call_function_entry kind_sorted plain_sorted entry_sorted (args_sorted1 _) ?_
  unfold Builtin.«sorted»
  refine wpAny_bind (m := checkCount "sorted" 1 1 _) (wpAny_pure ?_)
  refine wpAny_bind (collect_set (A := X.A.in1) (I.ok.hd hc) ⟨o, ho, hex.1, hd⟩ R.fits (by unfold scanBound; omega) R.tab.ris R.led fun s1 vs k1 hz g1 o1 pm => ?_)
  have hes : es.toList.map (·.2) = L.map fun q => Value.ref q.1 := by
    rw [R.rows]
    unfold rowsOf
    rw [List.map_map]; rfl
  rw [hes] at pm
  obtain ⟨L1, pL, rfl⟩ := perm_map_inv (fun q : Addr × List Int => Value.ref q.1) pm.symm rfl
  have hvl : (L1.map fun q => Value.ref q.1).length < 64 := by rw [List.length_map, pL.length_eq]; exact hfew
  have hk1 : ∀ q ∈ L1, SqT X.K G q.1 (q.2.map V.int) ∧ q.2.length ≤ sizeLine := fun q hq => hk q (pL.mem_iff.mp hq)
  have ra := rp_tups hk1
  have rv : Vals (L1.map fun q => V.ref q.1) (L1.map fun q => Value.ref q.1) := vals_of_refs L1
  have alk : ∀ d ∈ L1.map tuD, ∀ e ∈ L1.map tuD, PySem.W.alike d e = true := fun d hd e he => by
    obtain ⟨x, _, rfl⟩ := List.mem_map.mp hd
    obtain ⟨y, _, rfl⟩ := List.mem_map.mp he
    unfold tuD
    rw [PySem.W.alike]
    exact alike_ints x.2 y.2
  have al : PySem.W.AllAlike (L1.map tuD) := alk
  have er := rpAll_reads I sub ra rv fun d hd => nod_of_alike (alk d hd d hd)
  have ev := rpAll_each ra rv
  refine wpAny_bind (wpAny_newList ?_ (by rw [sizeLine_eq]; omega))
  have hoL : (s1.heap.push (seqObj "list" (L1.map fun q => Value.ref q.1).toArray 0)).get? s1.heap.objs.size = some (seqObj "list" (L1.map fun q => Value.ref q.1).toArray 0) := Heap.get?_push_size _ rfl
  have kp : ∀ b u, s.heap.get? b = some u → (PySem.W.sortingHeap (s1.heap.push (seqObj "list" (L1.map fun q => Value.ref q.1).toArray 0)) s1.heap.objs.size (L1.map fun q => Value.ref q.1)).get? b = some u := fun b u e => by
    have e1 := k1 b u e
    exact PySem.W.sortingHeap_old (Nat.ne_of_lt (Heap.lt_size e1)) (Heap.get?_push_of_some _ e1)
  have er' : PySem.W.EachIs (fun v d => ∃ as, Reads (PySem.W.sortingHeap (s1.heap.push (seqObj "list" (L1.map fun q => Value.ref q.1).toArray 0)) s1.heap.objs.size (L1.map fun q => Value.ref q.1)) v d as) (L1.map fun q => Value.ref q.1) (L1.map tuD) := er.mono fun _ _ ⟨as, r⟩ => ⟨as, PyProof.Rows.Reads.keeps kp r⟩
  have dep : ∀ d, d ∈ L1.map tuD → X.A.in1.in1.units + d.depth < cLine := fun d hd => by
    obtain ⟨x, _, rfl⟩ := List.mem_map.mp hd
    have : (tuD x).depth ≤ 1 := (dep_tu x.2).2
    show X.A.units + 1 + 1 + (tuD x).depth < cLine
    omega
  have S : PySem.W.SortsAt X.prog X.w X.A.in1.in1 { s1 with heap := PySem.W.sortingHeap (s1.heap.push (seqObj "list" (L1.map fun q => Value.ref q.1).toArray 0)) s1.heap.objs.size (L1.map fun q => Value.ref q.1) } (PySem.W.dataKind (PySem.W.sortingHeap (s1.heap.push (seqObj "list" (L1.map fun q => Value.ref q.1).toArray 0)) s1.heap.objs.size (L1.map fun q => Value.ref q.1)) (L1.map tuD)) (L1.map fun q => Value.ref q.1) :=
    PySem.W.SortsAt.tuples (s := { s1 with heap := PySem.W.sortingHeap (s1.heap.push (seqObj "list" (L1.map fun q => Value.ref q.1).toArray 0)) s1.heap.objs.size (L1.map fun q => Value.ref q.1) }) er' al (fun d hd => by obtain ⟨x, _, rfl⟩ := List.mem_map.mp hd; exact ⟨_, rfl⟩) dep
  have eo := PySem.W.sortVals_data (h' := PySem.W.sortingHeap (s1.heap.push (seqObj "list" (L1.map fun q => Value.ref q.1).toArray 0)) s1.heap.objs.size (L1.map fun q => Value.ref q.1)) (enc := id) false ev (er'.mono fun _ _ h => h) (by rw [List.map_id]; exact al)
  rw [List.map_id] at eo
  obtain ⟨ys, hy1, hy2⟩ := each_rpAll eo
  have hyl : ys.length < 64 := by
    have e1 : ys.length = (L1.map tuD).length := hy2.length.trans (List.length_mergeSort _)
    rw [e1, List.length_map, pL.length_eq]; exact hfew
  generalize hV : (L1.map fun q => Value.ref q.1) = vs at *
  generalize hO : PySem.W.sortVals (PySem.W.dataKind (PySem.W.sortingHeap (s1.heap.push (seqObj "list" vs.toArray 0)) s1.heap.objs.size vs) (L1.map tuD)) false vs vs = out at *
  obtain ⟨c, hcl⟩ := sortedHeap_at (vs := vs) (out := out.toArray) hoL
  have hn : H s1.heap.objs.size = none := I.hok.fresh hz
  have k2 : ∀ b u, s.heap.get? b = some u → (sortedHeap (s1.heap.push (seqObj "list" vs.toArray 0)) s1.heap.objs.size vs out.toArray).get? b = some u := fun b u e => by
    have e1 := k1 b u e
    have hlt := Heap.lt_size e1
    rw [sortedHeap_old (Nat.ne_of_lt hlt) (by rw [size_push']; exact Nat.lt_succ_of_lt hlt)]
    exact Heap.get?_push_of_some _ e1
  have done : Q (.ref s1.heap.objs.size) (upd H s1.heap.objs.size (.lst ys)) := q _ L1 ys pL hn hyl hy2
  have J : Inv X pins σ (upd H s1.heap.objs.size (.lst ys)) { s with heap := sortedHeap (s1.heap.push (seqObj "list" vs.toArray 0)) s1.heap.objs.size vs out.toArray, gens := s1.gens, drawn := s1.drawn, toks := s1.toks } :=
    I.call (ch := []) (Un.laid k2 hz hn) (I.hok.laid k2 hz ⟨by rw [sizeLine_eq]; omega, out, c, hy1, hcl⟩) (by rw [g1]; exact I.bare) (fun _ z => nomatch z)
  have es1 : ({ s1 with heap := sortedHeap (s1.heap.push (seqObj "list" vs.toArray 0)) s1.heap.objs.size vs out.toArray } : Shared) = { s with heap := sortedHeap (s1.heap.push (seqObj "list" vs.toArray 0)) s1.heap.objs.size vs out.toArray, gens := s1.gens, drawn := s1.drawn, toks := s1.toks } := by rw [o1]
  refine wpAny_bind (wpAny_holding (wpAny_call_entry slot_list_sort ⟨_, hoL, rfl⟩ entry_list_sort (PySem.W.list_sort_vals (s := { s1 with heap := s1.heap.push (seqObj "list" vs.toArray 0) }) hoL S (by rw [sizeLine_eq]; omega) ⟨_, rfl, ?_⟩) (args_list_sort _)))
  rw [hO]
  refine wpAny_pure ⟨_, rfl, ?_⟩
  show EP X pins σ Q _ ({ s1 with heap := sortedHeap (s1.heap.push (seqObj "list" vs.toArray 0)) s1.heap.objs.size vs out.toArray } : Shared)
  rw [es1]
  exact ⟨.ref _, _, J, rfl, done⟩
end PD
set_option Elab.async false
set_option linter.all false
set_option maxRecDepth 100000
set_option maxHeartbeats 1000000
namespace PD
open PySem PySem.Spec PyProof.Rows L2
theorem dcGo_more {t : Tg} {ft : DnB} {fk : Dn} {ρ : Rho} : ∀ {ds : List PyData} {acc ks : List (List Int)}, dcGo t ft fk ρ ds acc = .ok ks → acc.length ≤ ks.length ∧ ∀ k ∈ acc, k ∈ ks
  | [], acc, ks, h => by cases h; exact ⟨Nat.le_refl _, fun _ h => h⟩
  | d :: ds, acc, ks, h => by
    unfold dcGo at h
    cases et : t.set d ρ with
    | none => rw [et] at h; cases h
    | some ρ1 =>
      rw [et] at h
      obtain ⟨b, _, h⟩ := nx_ok h
      cases b with
      | false => exact dcGo_more h
      | true =>
        obtain ⟨y, _, h⟩ := nx_ok h
        cases ek : asTu y with
        | none => rw [ek] at h; cases h
        | some k =>
          rw [ek] at h
          obtain ⟨h1, h2⟩ := dcGo_more h
          split at h1
          · rename_i hk
            rw [if_pos hk] at h2
            exact ⟨h1, h2⟩
          · rename_i hk
            rw [if_neg hk] at h2
            rw [List.length_append] at h1
            exact ⟨by omega, fun k' h' => h2 k' (List.mem_append_left _ h')⟩
theorem sortD_perm {as bs : List (List Int)} (p : as.Perm bs) : sortD (as.map fun k => PyData.tuple (k.map .int)) = sortD (bs.map fun k => PyData.tuple (k.map .int)) := by
  have h : ∀ ls : List (List Int), sortD (ls.map fun k => PyData.tuple (k.map .int)) = (sortT ls).map tu := fun ls => (sortD_tus ls).1
  rw [h, h]
  congr 1
  rw [sortT_eq, sortT_eq]
  have q : (as.mergeSort leT).Perm (bs.mergeSort leT) := (List.mergeSort_perm as leT).trans (p.trans (List.mergeSort_perm bs leT).symm)
  have w1 := sortT_le as
  have w2 := sortT_le bs
  rw [sortT_eq] at w1 w2
  exact List.Perm.eq_of_pairwise (le := fun a b => leT a b = true) (fun a b _ _ h1 h2 => by unfold leT at h1 h2; exact lex_ne a b (by simpa using h2) (by simpa using h1)) w1 w2 q
theorem plain_setT (P : Program) (w : World) (a : Addr) (L : List (Addr × List Int)) : Plain (SetTO P w a L) := plain_ext fun n q x => by
  obtain ⟨es, ep, t, ⟨o, h1, _, h3⟩, _⟩ := SetT0.ex x
  rw [codeHeap_get h1] at h3
  cases h3
theorem setT_xd {P : Program} {w : World} {a : Addr} {L : List (Addr × List Int)} : ∀ fs, SetTO P w a L ≠ .xd fs := fun _ z => by cases z
end PD
set_option Elab.async false
set_option linter.all false
set_option maxRecDepth 100000
set_option maxHeartbeats 1000000
namespace PD
open PySem PySem.Spec PyProof.Rows L2
end PD
set_option Elab.async false
set_option linter.all false
set_option maxRecDepth 100000
set_option maxHeartbeats 1000000
namespace PD
open PySem PySem.Spec PyProof.Rows L2
end PD
set_option Elab.async false
set_option linter.all false
set_option maxRecDepth 100000
set_option maxHeartbeats 2000000
namespace PDC
open PySem PySem.Spec
open Sem (wp)
end PDC
set_option Elab.async false
set_option linter.all false
set_option maxRecDepth 100000
set_option maxHeartbeats 2000000
namespace PDC
open PySem PySem.Spec
open Sem (wp)
abbrev TupO (vs : List Value) : Obj := { cls := .type "tuple", dict := none, data := .seq vs.toArray, slots := #[] }
end PDC
set_option Elab.async false
set_option linter.all false
set_option maxRecDepth 100000
set_option maxHeartbeats 2000000
namespace PDC
open PySem PySem.Spec
open Sem (wp)
def pickV (vs : List Value) (js : List Nat) : List Value := js.map fun j => vs.toArray.getD j .none
end PDC
set_option Elab.async false
set_option linter.all false
set_option maxRecDepth 100000
set_option maxHeartbeats 2000000
namespace PDC
open PySem PySem.Spec
open Sem (wp)
end PDC
set_option Elab.async false
set_option linter.all false
set_option maxRecDepth 100000
set_option maxHeartbeats 2000000
namespace PDC
open PySem PySem.Spec
open Sem (wp)
inductive Made (h : Heap) (vs : List Value) : List Addr → List (List Nat) → Prop
  | nil : Made h vs [] []
  | cons {a : Addr} {as : List Addr} {j : List Nat} {js : List (List Nat)} : h.get? a = some (TupO (pickV vs j)) → Made h vs as js → Made h vs (a :: as) (j :: js)
theorem Made.mono {h h' : Heap} {vs : List Value} {as : List Addr} {js : List (List Nat)} (m : Made h vs as js) (k : ∀ a ∈ as, ∀ o, h.get? a = some o → h'.get? a = some o) : Made h' vs as js := by
  induction m with
  | nil => exact .nil
  | cons e m ih => exact .cons (k _ List.mem_cons_self _ e) (ih fun a ha => k a (List.mem_cons_of_mem _ ha))
end PDC
set_option Elab.async false
set_option linter.all false
set_option maxRecDepth 100000
set_option maxHeartbeats 2000000
namespace PDC
open PySem PySem.Spec
open Sem (wp)
end PDC
set_option Elab.async false
set_option linter.all false
set_option maxRecDepth 100000
set_option maxHeartbeats 2000000
namespace PD
open PySem PySem.Spec PyProof.Rows L2 PDC
def combs {α : Type} : Nat → List α → List (List α)
  | 0, _ => [[]]
  | _ + 1, [] => []
  | r + 1, x :: xs => (combs r xs).map (x :: ·) ++ combs (r + 1) xs
theorem combs_sub {α : Type} : ∀ {r : Nat} {l js : List α}, js ∈ combs r l → js.Sublist l ∧ js.length = r
  | 0, l, js, h => by
    have : js ∈ [([] : List α)] := by cases l <;> exact h
    rw [List.mem_singleton.mp this]
    exact ⟨List.nil_sublist _, rfl⟩
  | r + 1, [], js, h => by cases h
  | r + 1, x :: xs, js, h => by
    unfold combs at h
    rcases List.mem_append.mp h with h | h
    · obtain ⟨k, hk, rfl⟩ := List.mem_map.mp h
      have := combs_sub hk
      exact ⟨this.1.cons₂ x, by simp [this.2]⟩
    · have := combs_sub h
      exact ⟨this.1.cons x, this.2⟩
end PD
set_option Elab.async false
set_option linter.all false
set_option maxRecDepth 100000
set_option maxHeartbeats 1000000
namespace PD
open PySem PySem.Spec PyProof.Rows L2 PDC
end PD
set_option Elab.async false
set_option linter.all false
set_option maxRecDepth 100000
set_option maxHeartbeats 1000000
namespace PD
open PySem PySem.Spec PyProof.Rows L2 PDC
end PD
set_option Elab.async false
set_option linter.all false
set_option maxRecDepth 100000
set_option maxHeartbeats 1000000
namespace PD
open PySem PySem.Spec PyProof.Rows L2
section
variable {prog : Program} {w : World} {A : Around} {R : Result → Shared → Prop} {s : Shared} {kx g0 i0 g1 i1 : Expr} {cs0 cs1 : List Expr} {scope : Scope} {pos : Pos} {it acc : Value} {env : Env}
theorem turnS_out : compTurn (.SetComp kx [⟨g0, i0, cs0, 0⟩, ⟨g1, i1, cs1, 0⟩] scope pos) 0 it acc env = (standAt i0.pos >>= fun _ => pyNext it >>= fun r => match r with
    | none => pure (.done .next)
    | some v => letOwnedTupleGo g0 it v >>= fun _ => assign g0 env v >>= fun _ => (forIn cs0 true fun c r => if r = true then do let b ← isTrue c env (eval c env); pure (ForInStep.yield b) else pure (ForInStep.yield r)) >>= fun b =>
      if b = true then eval i1 env >>= fun x => standAt i1.pos >>= fun _ => foldedSetIterable i1 env x >>= fun x => holding [x] (pyIter x) >>= fun y => runOwn (.compStart (.SetComp kx [⟨g0, i0, cs0, 0⟩, ⟨g1, i1, cs1, 0⟩] scope pos) 1 y acc env) env >>= fun _ => again (.compLoop (.SetComp kx [⟨g0, i0, cs0, 0⟩, ⟨g1, i1, cs1, 0⟩] scope pos) 0 it acc env)
      else again (.compLoop (.SetComp kx [⟨g0, i0, cs0, 0⟩, ⟨g1, i1, cs1, 0⟩] scope pos) 0 it acc env)) := by rfl
theorem turnS_in : compTurn (.SetComp kx [⟨g0, i0, cs0, 0⟩, ⟨g1, i1, cs1, 0⟩] scope pos) 1 it acc env = (standAt i1.pos >>= fun _ => pyNext it >>= fun r => match r with
    | none => pure (.done .next)
    | some v => letOwnedTupleGo g1 it v >>= fun _ => assign g1 env v >>= fun _ => (forIn cs1 true fun c r => if r = true then do let b ← isTrue c env (eval c env); pure (ForInStep.yield b) else pure (ForInStep.yield r)) >>= fun b =>
      if b = true then ((eval kx env >>= fun v => standAt kx.pos >>= fun _ => call (.builtin "set.add") [acc, v] >>= fun _ => pure PUnit.unit) >>= fun _ => again (.compLoop (.SetComp kx [⟨g0, i0, cs0, 0⟩, ⟨g1, i1, cs1, 0⟩] scope pos) 1 it acc env))
      else again (.compLoop (.SetComp kx [⟨g0, i0, cs0, 0⟩, ⟨g1, i1, cs1, 0⟩] scope pos) 1 it acc env)) := by rfl
/-- one turn of the loop of the second clause -/
theorem loopS_in (I : Nat → Shared → Prop)
    (turn : ∀ n s, I n s → wpAny (model prog w) A (pyNext it) (fun r s1 => match r with
      | none => R (.ok .next) s1
      | some v => wpAny (model prog w) A (letOwnedTupleGo g1 it v) (fun _ s2 => wpAny (model prog w) A (assign g1 env v) (fun _ s3 => wpAny (model prog w) A (forIn cs1 true fun c r => if r = true then do let b ← isTrue c env (eval c env); pure (ForInStep.yield b) else pure (ForInStep.yield r)) (fun b s4 =>
          if b = true then wpAny (model prog w) A (eval kx env) (fun x s5 => wpAny (model prog w) A (call (.builtin "set.add") [acc, x]) (fun _ s6 => ∃ m, m < n ∧ I m s6) (fun _ _ => False) s5) (fun _ _ => False) s4 else ∃ m, m < n ∧ I m s4) (fun _ _ => False) s3) (fun _ _ => False) s2) (fun _ _ => False) s1) (fun _ _ => False) s)
    (n : Nat) (h : I n s) : codeAny (model prog w) A (.compLoop (.SetComp kx [⟨g0, i0, cs0, 0⟩, ⟨g1, i1, cs1, 0⟩] scope pos) 1 it acc env) R s := by
  refine codeAny_loop rfl I (fun n s hI => ?_) n h
  show wpAny _ A ((compTurn (.SetComp kx [⟨g0, i0, cs0, 0⟩, ⟨g1, i1, cs1, 0⟩] scope pos) 1 it acc env).onRaise (fun x => do noteFrame x env; theTreesLotGoes x)) _ _ s
  refine wpAny_noted ?_
  rw [turnS_in]
  refine wpAny_bind (wpAny_standAt (wpAny_bind (wpAny_mono (turn n s hI) (fun r s1 h1 => ?_) fun _ _ z => z.elim)))
  cases r with
  | none => exact wpAny_pure h1
  | some v =>
    refine wpAny_bind (wpAny_mono h1 (fun _ s2 h2 => wpAny_bind (wpAny_mono h2 (fun _ s3 h3 => wpAny_bind (wpAny_mono h3 (fun b s4 h4 => ?_) fun _ _ z => z.elim)) fun _ _ z => z.elim)) fun _ _ z => z.elim)
    cases b with
    | false => exact wpAny_pure ⟨rfl, h4⟩
    | true => exact wpAny_bind (wpAny_bind (wpAny_mono h4 (fun x s5 h5 => wpAny_bind (wpAny_standAt (wpAny_bind (wpAny_mono h5 (fun _ s6 h6 => wpAny_pure (wpAny_pure ⟨rfl, h6⟩)) fun _ _ z => z.elim)))) fun _ _ z => z.elim))
/-- one turn of the loop of the first clause -/
theorem loopS_out (hs : ∀ x, foldedSetIterable i1 env x = pure x) (I : Nat → Shared → Prop)
    (turn : ∀ n s, I n s → wpAny (model prog w) A (pyNext it) (fun r s1 => match r with
      | none => R (.ok .next) s1
      | some v => wpAny (model prog w) A (letOwnedTupleGo g0 it v) (fun _ s2 => wpAny (model prog w) A (assign g0 env v) (fun _ s3 => wpAny (model prog w) A (forIn cs0 true fun c r => if r = true then do let b ← isTrue c env (eval c env); pure (ForInStep.yield b) else pure (ForInStep.yield r)) (fun b s4 =>
          if b = true then wpAny (model prog w) A (eval i1 env) (fun x s5 => wpAny (model prog w) A (pyIter x) (fun y s6 => codeAny (model prog w) A (.compStart (.SetComp kx [⟨g0, i0, cs0, 0⟩, ⟨g1, i1, cs1, 0⟩] scope pos) 1 y acc env) (fun r s' => match r with
            | .ok _ => ∃ m, m < n ∧ I m s'
            | .error _ => False) s6) (fun _ _ => False) s5) (fun _ _ => False) s4 else ∃ m, m < n ∧ I m s4) (fun _ _ => False) s3) (fun _ _ => False) s2) (fun _ _ => False) s1) (fun _ _ => False) s)
    (n : Nat) (h : I n s) : codeAny (model prog w) A (.compLoop (.SetComp kx [⟨g0, i0, cs0, 0⟩, ⟨g1, i1, cs1, 0⟩] scope pos) 0 it acc env) R s := by
  refine codeAny_loop rfl I (fun n s hI => ?_) n h
  show wpAny _ A ((compTurn (.SetComp kx [⟨g0, i0, cs0, 0⟩, ⟨g1, i1, cs1, 0⟩] scope pos) 0 it acc env).onRaise (fun x => do noteFrame x env; theTreesLotGoes x)) _ _ s
  refine wpAny_noted ?_
  rw [turnS_out]
  refine wpAny_bind (wpAny_standAt (wpAny_bind (wpAny_mono (turn n s hI) (fun r s1 h1 => ?_) fun _ _ z => z.elim)))
  cases r with
  | none => exact wpAny_pure h1
  | some v =>
    refine wpAny_bind (wpAny_mono h1 (fun _ s2 h2 => wpAny_bind (wpAny_mono h2 (fun _ s3 h3 => wpAny_bind (wpAny_mono h3 (fun b s4 h4 => ?_) fun _ _ z => z.elim)) fun _ _ z => z.elim)) fun _ _ z => z.elim)
    cases b with
    | false => exact wpAny_pure ⟨rfl, h4⟩
    | true =>
      refine wpAny_bind (wpAny_mono h4 (fun x s5 h5 => ?_) fun _ _ z => z.elim)
      refine wpAny_bind (wpAny_standAt (wpAny_bind (wpAny_of_eq (hs x) (wpAny_bind (wpAny_holding (wpAny_mono h5 (fun y s6 h6 => ?_) fun _ _ z => z.elim))))))
      refine wpAny_bind (wpAny_runOwn ?_)
      rw [Around.mark_none]
      refine codeAny_mono h6 fun r s' hr => ?_
      cases r with
      | ok f => exact wpAny_pure ⟨rfl, hr⟩
      | error e => exact hr.elim
/-- the second clause's start -/
theorem startS_in (h0 : codeAny (model prog w) A (.compLoop (.SetComp kx [⟨g0, i0, cs0, 0⟩, ⟨g1, i1, cs1, 0⟩] scope pos) 1 it acc env) R s)
    (h : wpAny (model prog w) A (pyIter it) (fun y s' => codeAny (model prog w) A (.compLoop (.SetComp kx [⟨g0, i0, cs0, 0⟩, ⟨g1, i1, cs1, 0⟩] scope pos) 1 y acc env) R s') (fun _ _ => False) s) :
    codeAny (model prog w) A (.compStart (.SetComp kx [⟨g0, i0, cs0, 0⟩, ⟨g1, i1, cs1, 0⟩] scope pos) 1 it acc env) R s := by
  refine codeAny_of_tree ?_
  show wpAny _ _ ((compStart (.SetComp kx [⟨g0, i0, cs0, 0⟩, ⟨g1, i1, cs1, 0⟩] scope pos) 1 it acc env).onRaise (fun x => do noteFrame x env; standAt theWindowsPlace)) _ _ s
  refine wpAny_notedAt ?_
  unfold compStart
  show wpAny _ _ (ask >>= _) _ _ s
  refine wpAny_bind (wpAny_askSetting (wpAny_ite ?_))
  split
  · first
      | exact wpAny_bind (wpAny_pure (wpAny_pure (And.intro rfl h0)))
      | exact wpAny_pure (And.intro rfl h0)
  · refine wpAny_bind (wpAny_rule ?_)
    first
      | exact wpAny_bind (wpAny_standAt (wpAny_bind (wpAny_mono h (fun y s' h' => wpAny_pure (And.intro rfl h')) fun _ _ z => z.elim)))
      | (show wpAny _ _ (standAt i1.pos >>= _) _ _ s; exact wpAny_bind (wpAny_standAt (wpAny_bind (wpAny_mono h (fun y s' h' => wpAny_pure (And.intro rfl h')) fun _ _ z => z.elim))))
end
end PD
set_option Elab.async false
set_option linter.all false
set_option maxRecDepth 100000
set_option maxHeartbeats 1000000
namespace PD
open PySem PySem.Spec PyProof.Rows L2
section
variable {X : Cx} {s0 : Shared} {H0 : Hp} {scope : Scope} {fp : List Addr} {kx g0 i0 tg1 i1 : Expr} {cs0 ifs1 : List Expr} {pos : Pos} {g1 : TG} {tt1 : TT} {tk : TE}
/-- the inner loop, within a turn of the outer one -/
theorem innerS {pins : List (Addr × Obj)} {fp1 : List Addr} {tn1 : Nat → Heap → Prop} {J1 : It} {it1 D : Addr} {σ2 : L2.St} {vs1 : List Nat} {H4 : Hp} {s : Shared} {R : Result → Shared → Prop} {Nx : Hp → Prop} {W1 : Nat → Nat → Hp → Prop} {m1 : Nat}
    (hu : X.A.units + 64 < cLine) (hc : X.calm = true) (T1 : Turn X.prog X.w X.K tg1 J1 fp1 it1 tn1) (f1 : ∀ b ∈ fp1, FpOk (inBlk X s0 scope H0 fp) pins H4 b)
    (pg1 : PG (inBlk X s0 scope H0 fp) tg1 g1) (pt1 : PTs (inBlk X s0 scope H0 fp) ifs1 tt1) (pk : PE (inBlk X s0 scope H0 fp) kx tk)
    (turn1 : ∀ j k H, W1 j k H → (J1.stop j H ∧ Nx H) ∨ (J1.go j H ∧ ∃ Nx1 : Hp → Prop, (∀ H', Nx1 H' → ∃ k', k' < k ∧ W1 (j + 1) k' H') ∧ ∀ x H', J1.yld j H x H' → memTurn X.K X.prog X.w σ2 vs1 g1 tt1 tk D Nx1 x H'))
    (over : ∀ H s, Inv (inBlk X s0 scope H0 fp) pins (L2.wipe σ2 vs1) H s → Nx H → R (.ok .next) s) (w0 : W1 0 m1 H4) (I : Inv (inBlk X s0 scope H0 fp) pins σ2 H4 s) (t : tn1 0 s.heap) :
    codeAny (model X.prog X.w) X.A (.compLoop (.SetComp kx [⟨g0, i0, cs0, 0⟩, ⟨tg1, i1, ifs1, 0⟩] scope pos) 1 (.ref it1) (.ref D) (envBlk X s0 scope)) R s := by
  have stat : ∀ {H' : Hp}, (∀ b ∈ fp1, H' b = none) → ∀ b ∈ fp1, FpOk (inBlk X s0 scope H0 fp) pins H' b := fun hn b hb => ⟨hn b hb, (f1 b hb).2⟩
  refine loopS_in (fun k s' => ∃ j H', Inv (inBlk X s0 scope H0 fp) pins (L2.wipe σ2 vs1) H' s' ∧ tn1 j s'.heap ∧ (∀ b ∈ fp1, H' b = none) ∧ W1 j k H') ?_ m1 ⟨0, H4, I.weak (wipe_length _ _) (fun j v e => (wipe_some e).1), t, fun b hb => (f1 b hb).1, w0⟩
  rintro k s5 ⟨j, H5, I5, t5, n5, w5⟩
  rcases turn1 j k H5 w5 with ⟨stop, nx⟩ | ⟨go, Nx1, less, each⟩
  · refine thnF (T1.done (inBlk X s0 scope H0 fp) rfl rfl rfl hc j pins s5 (L2.wipe σ2 vs1) H5 (fun _ _ => False) I5 (stat n5) t5 stop) ?_
    rintro r s6 ⟨rfl, I6⟩
    exact over H5 s6 I6 nx
  · refine thnF (T1.item (inBlk X s0 scope H0 fp) rfl rfl rfl hc j pins s5 (L2.wipe σ2 vs1) H5 (fun _ _ => False) I5 (stat n5) t5 go) ?_
    rintro r s6 ⟨u, rfl, h6⟩
    refine thnF h6 ?_
    rintro _ s7 ⟨x, H7, I7, r7, y7, t7, n7⟩
    refine thnF (pg1.run _ s7 (L2.wipe σ2 vs1) H7 x u _ (I7.pinned (stat n7) (T1.obj _ _ t7)) r7 (each x H7 y7)) ?_
    rintro _ s8 ⟨σ8, H8, I8, e8, q8⟩
    refine thnF (pt1.run _ s8 σ8 H8 _ I8 q8) ?_
    rintro b s9 ⟨H9, I9, q9⟩
    have fin : ∀ {s' : Shared} {H' : Hp}, Inv (inBlk X s0 scope H0 fp) (pins ++ pinsAt fp1 s7.heap) σ8 H' s' → Nx1 H' → ∃ m, m < k ∧ ∃ j H', Inv (inBlk X s0 scope H0 fp) pins (L2.wipe σ2 vs1) H' s' ∧ tn1 j s'.heap ∧ (∀ b ∈ fp1, H' b = none) ∧ W1 j m H' := by
      intro s' H' J nx
      obtain ⟨m', lt, w⟩ := less H' nx
      have same : ∀ b ∈ fp1, ∀ o, s7.heap.get? b = some o → s'.heap.get? b = some o ∧ H' b = none := fun b hb o ho => by
        have := J.pin (b, o) (List.mem_append_right _ (List.mem_append_right _ (mem_pinsAt hb ho)))
        exact ⟨this.1, this.2.1⟩
      refine ⟨m', lt, j + 1, H', J.unpinned.weak (by rw [← e8, wipe_length]) (fun i v e => (wipe_some (e8 ▸ e)).1), T1.keep _ _ _ t7 fun b hb o ho => (same b hb o ho).1, fun b hb => ?_, w⟩
      obtain ⟨o, ho, -⟩ := T1.obj _ _ t7 b hb
      exact (same b hb o ho).2
    rcases b with _ | _
    · simp only [Bool.false_eq_true, if_false] at q9 ⊢
      exact fin I9 q9
    · simp only [if_true] at q9 ⊢
      refine thnF (pk.run _ s9 σ8 H9 _ I9 q9) ?_
      rintro kv s10 ⟨_, H10, I10, rk, L, p, key, rfl, hD, hL, few, hp, nx⟩
      cases rk
      exact addT_ok (X := inBlk X s0 scope H0 fp) hu I10 hD hL hp few fun s11 L' I11 n1 n2 => fin I11 (nx L' n1 n2)
end
/-- what the rule asks of a turn of the outer clause -/
def memTurn2 (K : PySem.W.Frag) (P : Program) (w : World) (σ : L2.St) (vs vs1 : List Nat) (g : TG) (tt : TT) (wi1 : TI) (g1 : TG) (tt1 : TT) (tk : TE) (D : Addr) (Nx : Hp → Prop) (x : V) (H : Hp) : Prop :=
  g x (L2.wipe σ vs) H fun σ2 H2 => L2.wipe σ2 vs = L2.wipe σ vs ∧ tt σ2 H2 fun b H3 =>
    if b = true then wi1 σ2 H3 fun J1 H4 => ∃ W1 : Nat → Nat → Hp → Prop, (∃ m, W1 0 m H4) ∧ ∀ j k H, W1 j k H →
      (J1.stop j H ∧ Nx H) ∨ (J1.go j H ∧ ∃ Nx1 : Hp → Prop, (∀ H', Nx1 H' → ∃ k', k' < k ∧ W1 (j + 1) k' H') ∧ ∀ x H', J1.yld j H x H' → memTurn K P w σ2 vs1 g1 tt1 tk D Nx1 x H') else Nx H3
def tScT2 (K : PySem.W.Frag) (P : Program) (w : World) (wi : TI) (g : TG) (tt : TT) (wi1 : TI) (g1 : TG) (tt1 : TT) (tk : TE) (vs vs1 : List Nat) : TE := fun σ H Q => wi σ H fun J H1 => ∀ D, H1 D = none → ∃ W : Nat → Nat → Hp → Prop, (∃ m, W 0 m (upd H1 D (SetTO P w D []))) ∧ ∀ i m H, W i m H →
  (J.stop i H ∧ Q (.ref D) H) ∨ (J.go i H ∧ ∃ Nx : Hp → Prop, (∀ H', Nx H' → ∃ m', m' < m ∧ W (i + 1) m' H') ∧ ∀ x H', J.yld i H x H' → memTurn2 K P w σ vs vs1 g tt wi1 g1 tt1 tk D Nx x H')
section
variable {X : Cx} {σ : L2.St} {vs vs1 : List Nat} {s0 : Shared} {H0 : Hp} {scope : Scope} {fp : List Addr} {tn : Nat → Heap → Prop} {J : It} {tg tg1 i0 i1 : Expr} {it : Addr}
theorem memLoop2 {kx : Expr} {ifs ifs1 : List Expr} {pos : Pos} {g g1 : TG} {tt tt1 : TT} {tk : TE} {wi1 : TI} {D : Addr} {Q : VK} {R : Result → Shared → Prop} {W : Nat → Nat → Hp → Prop} {m0 : Nat}
    (hu : X.A.units + 64 < cLine) (hc : X.calm = true) (hv : ∀ i ∈ vs1, i ∈ vs) (T : Turn X.prog X.w X.K tg J fp it tn)
    (pg : PG (inBlk X s0 scope H0 fp) tg g) (pt : PTs (inBlk X s0 scope H0 fp) ifs tt) (pi1 : PI (inBlk X s0 scope H0 fp) tg1 i1 wi1) (pg1 : PG (inBlk X s0 scope H0 fp) tg1 g1) (pt1 : PTs (inBlk X s0 scope H0 fp) ifs1 tt1) (pk : PE (inBlk X s0 scope H0 fp) kx tk) (hs1 : ∀ x, foldedSetIterable i1 (envBlk X s0 scope) x = pure x)
    (turn : ∀ i m H, W i m H → (J.stop i H ∧ Q (.ref D) H) ∨ (J.go i H ∧ ∃ Nx : Hp → Prop, (∀ H', Nx H' → ∃ m', m' < m ∧ W (i + 1) m' H') ∧ ∀ x H', J.yld i H x H' → memTurn2 X.K X.prog X.w σ vs vs1 g tt wi1 g1 tt1 tk D Nx x H'))
    (over : ∀ H s, Inv (inBlk X s0 scope H0 fp) [] (L2.wipe σ vs) H s → Q (.ref D) H → R (.ok .next) s)
    {s : Shared} {H : Hp} (w0 : W 0 m0 H) (a0 : AtTurn X s0 H0 scope fp tn (L2.wipe σ vs) 0 H s) :
    codeAny (model X.prog X.w) X.A (.compLoop (.SetComp kx [⟨tg, i0, ifs, 0⟩, ⟨tg1, i1, ifs1, 0⟩] scope pos) 0 (.ref it) (.ref D) (envBlk X s0 scope)) R s := by
  refine loopS_out hs1 (fun m s => ∃ i H, AtTurn X s0 H0 scope fp tn (L2.wipe σ vs) i H s ∧ W i m H) ?_ m0 ⟨0, H, a0, w0⟩
  intro m s1 ⟨i, H1, a1, w1⟩
  cases turn i m H1 w1 with
  | inl z =>
    refine thnF (T.done (inBlk X s0 scope H0 fp) rfl rfl rfl hc i [] s1 _ H1 (fun _ _ => False) a1.inv (fun b => a1.free) a1.own z.1) ?_
    rintro r s2 ⟨rfl, I2⟩
    exact over H1 s2 I2 z.2
  | inr z =>
    obtain ⟨go, Nx, less, each⟩ := z
    refine thnF (T.item (inBlk X s0 scope H0 fp) rfl rfl rfl hc i [] s1 _ H1 (fun _ _ => False) a1.inv (fun b => a1.free) a1.own go) ?_
    rintro r s2 ⟨u, rfl, hu2⟩
    refine thnF hu2 ?_
    rintro _ s3 ⟨x, H3, I3, rx, hx, t3, n3⟩
    have a3 : AtTurn X s0 H0 scope fp tn (L2.wipe σ vs) (i + 1) H3 s3 := ⟨I3, t3, n3⟩
    have done : ∀ {σ4 : L2.St} {s5 : Shared} {H5 : Hp}, L2.wipe σ4 vs = L2.wipe σ vs → Inv (inBlk X s0 scope H0 fp) ([] ++ pinsAt fp s3.heap) σ4 H5 s5 → Nx H5 →
        ∃ m', m' < m ∧ ∃ i H, AtTurn X s0 H0 scope fp tn (L2.wipe σ vs) i H s5 ∧ W i m' H := by
      intro σ4 s5 H5 e I5 nx
      obtain ⟨m', lt, w⟩ := less H5 nx
      exact ⟨m', lt, i + 1, H5, AtTurn.next (τ := σ) T e t3 I5, w⟩
    refine thnF (pg.run _ s3 _ H3 x u _ (I3.pinned (fun b => a3.free) (T.obj _ _ t3)) rx (each x H3 hx)) ?_
    rintro _ s4 ⟨σ4, H4, I4, e4, q4⟩
    refine thnF (pt.run _ s4 σ4 H4 _ I4 q4) ?_
    rintro b s5 ⟨H5, I5, q5⟩
    rcases b with _ | _
    · simp only [Bool.false_eq_true, if_false] at q5 ⊢
      exact done e4 I5 q5
    · simp only [if_true] at q5 ⊢
      refine thnF (pi1.run _ s5 σ4 H5 _ I5 q5) ?_
      intro xv s6 h6
      refine thnF h6 ?_
      rintro _ s7 ⟨it1, fp1, tn1, J1, H7, rfl, I7, T1, t7, f7, W1, ⟨m1, w1'⟩, turn1⟩
      have ww : L2.wipe (L2.wipe σ4 vs1) vs = L2.wipe σ vs := by
        rw [← e4]
        apply List.ext_getElem?
        intro j
        by_cases hj : j ∈ vs
        · by_cases hl : j < σ4.length
          · rw [wipe_in hj (by rw [wipe_length]; exact hl), wipe_in hj hl]
          · rw [List.getElem?_eq_none (by rw [wipe_length, wipe_length]; omega), List.getElem?_eq_none (by rw [wipe_length]; omega)]
        · rw [wipe_out hj, wipe_out hj, wipe_out fun z => hj (hv j z)]
      have loop1 := innerS (X := X) (g0 := tg) (i0 := i0) (cs0 := ifs) (i1 := i1) (pos := pos) (Nx := Nx) (R := fun r s' => match r with
        | .ok _ => ∃ m', m' < m ∧ ∃ i H, AtTurn X s0 H0 scope fp tn (L2.wipe σ vs) i H s' ∧ W i m' H
        | .error _ => False) hu hc T1 f7 pg1 pt1 pk turn1 (fun H s I nx => done ww I nx) w1' I7 t7
      exact startS_in loop1 (T1.self X.A 0 _ _ _ t7 loop1)
end
end PD
set_option Elab.async false
set_option linter.all false
set_option maxRecDepth 100000
set_option maxHeartbeats 1000000
namespace PD
open PySem PySem.Spec PyProof.Rows L2
section
variable {X : Cx} {kx tg iter tg1 i1 : Expr} {ifs ifs1 : List Expr} {scope : Scope} {own : List (Str × Nat)} {vs1 : List Nat} {pos : Pos} {wi wi1 : TI} {g g1 : TG} {tt tt1 : TT} {tk : TE}
theorem pe_scT2 (hu : X.A.units + 64 < cLine) (hc : X.calm = true) (hN : X.N.Nodup) (hi : PI X tg iter wi) (ok : BlkOk X.N X.env.scope scope own) (hv : ∀ i ∈ vs1, i ∈ own.map (·.2))
    (hg : ∀ (s : Shared) (H : Hp) (C : Addr) (cl : List (Str × Addr)) (fp : List Addr), PG (X.blk s H scope (compEnvC scope cl C X.env) fp) tg g) (ht : ∀ (s : Shared) (H : Hp) (C : Addr) (cl : List (Str × Addr)) (fp : List Addr), PTs (X.blk s H scope (compEnvC scope cl C X.env) fp) ifs tt)
    (hi1 : ∀ (s : Shared) (H : Hp) (C : Addr) (cl : List (Str × Addr)) (fp : List Addr), PI (X.blk s H scope (compEnvC scope cl C X.env) fp) tg1 i1 wi1)
    (hg1 : ∀ (s : Shared) (H : Hp) (C : Addr) (cl : List (Str × Addr)) (fp : List Addr), PG (X.blk s H scope (compEnvC scope cl C X.env) fp) tg1 g1) (ht1 : ∀ (s : Shared) (H : Hp) (C : Addr) (cl : List (Str × Addr)) (fp : List Addr), PTs (X.blk s H scope (compEnvC scope cl C X.env) fp) ifs1 tt1)
    (hk : ∀ (s : Shared) (H : Hp) (C : Addr) (cl : List (Str × Addr)) (fp : List Addr), PE (X.blk s H scope (compEnvC scope cl C X.env) fp) kx tk)
    (hs : ∀ x, foldedSetIterable iter X.env x = pure x := by intro _; rfl) (hs1 : ∀ env x, foldedSetIterable i1 env x = pure x := by intro _ _; rfl) :
    PE X (.SetComp kx [⟨tg, iter, ifs, 0⟩, ⟨tg1, i1, ifs1, 0⟩] scope pos) (tScT2 X.K X.prog X.w wi g tt wi1 g1 tt1 tk (own.map (·.2)) vs1) := by
  have P := KeyParts.of (Nat.lt_of_le_of_lt (Nat.le_add_right _ _) hu) hc hN hi ok hg ht hk hs
  constructor
  intro pins s σ H Q I h
  rw [PpSet.eval_SetComp]
  have cells : ∀ y ∈ scope.names, y.2 = .free → ∃ c, X.env.cells.lookup y.1 = some c := by
    intro y hy e
    cases P.blk.free y hy e with
    | inl z => exact I.ok.has _ (.inl z)
    | inr z => exact I.ok.has _ (.inr z)
  have locs : ∀ y ∈ scope.names, y.2 = .local → scope.names.lookup y.1 = some .local := fun y hy e => (P.blk.uniq y hy).trans (congrArg some e)
  refine wpAny_comprehension_free (use := none) rfl P.plain (closure_ok cells) P.blk.kind locs ?_
  refine thn (P.walk.run pins s σ H _ I h) ?_
  intro x s1 h1
  refine thn h1 ?_
  rintro _ s2 ⟨it, fp, tn, J, H2, rfl, I2, T, t2, f2, h2⟩
  refine PpSet.newSet_ok ?_
  obtain ⟨W, ⟨m0, w0⟩, turn⟩ := h2 s2.heap.objs.size (I2.hok.fresh (Nat.le_refl _))
  have fresh : (s2.heap.push { cls := .type "set", dict := none, data := .set #[] 0 (.fresh 0 0 (!X.w.params.followText "set-order")) }).get? s2.heap.objs.size = some { cls := .type "set", dict := none, data := .set #[] 0 (.fresh 0 0 (!X.w.params.followText "set-order")) } := Heap.get?_push_size _ rfl
  have I3 : Inv X pins σ (upd H2 s2.heap.objs.size (SetTO X.prog X.w s2.heap.objs.size [])) { s2 with heap := s2.heap.push { cls := .type "set", dict := none, data := .set #[] 0 (.fresh 0 0 (!X.w.params.followText "set-order")) } } :=
    I2.laid (t' := s2.toks) (fun b o e => Heap.get?_push_of_some _ e) (Nat.le_refl _) (setTO_new (setTR_fresh fresh).t0)
  have f3 : ∀ b ∈ fp, FpOk X pins (upd H2 s2.heap.objs.size (SetTO X.prog X.w s2.heap.objs.size [])) b ∧ b < (s2.heap.push { cls := .type "set", dict := none, data := .set #[] 0 (.fresh 0 0 (!X.w.params.followText "set-order")) }).objs.size := by
    intro b hb
    obtain ⟨o, hbo, -⟩ := T.obj _ _ t2 b hb
    have lt : b < s2.heap.objs.size := Heap.lt_size hbo
    refine ⟨⟨(upd_ne (Nat.ne_of_lt lt)).trans (f2 b hb).1, (f2 b hb).2⟩, ?_⟩
    rw [Heap.size_push]
    exact Nat.lt_succ_of_lt lt
  have t3 := T.keep _ _ (s2.heap.push { cls := .type "set", dict := none, data := .set #[] 0 (.fresh 0 0 (!X.w.params.followText "set-order")) }) t2 fun b _ o e => Heap.get?_push_of_some _ e
  refine newEnv_comp ?_
  have t4 := T.keep _ _ (pushCells ((s2.heap.push { cls := .type "set", dict := none, data := .set #[] 0 (.fresh 0 0 (!X.w.params.followText "set-order")) }).push { cls := .type "dict", data := .dict #[] }) scope.names) t3 fun b _ o e => pushCells_keeps _ _ _ _ (Heap.get?_push_of_some _ e)
  have loop := memLoop2 (σ := σ) (vs := own.map (·.2)) (pos := pos) (R := compPost (model X.prog X.w) X.A X.xe none (fun u s' => ∃ v H', Inv X pins σ H' s' ∧ RelV v u ∧ Q v H') (.ref s2.heap.objs.size) (s2.heap.push { cls := .type "set", dict := none, data := .set #[] 0 (.fresh 0 0 (!X.w.params.followText "set-order")) }).objs.size) (i0 := iter)
    hu P.calm hv T (P.tgt _ _ fp) (P.test _ _ fp) (hi1 _ _ _ _ fp) (hg1 _ _ _ _ fp) (ht1 _ _ _ _ fp) (P.key _ _ fp) (hs1 _) turn
    (fun H5 s5 I5 q => by
      obtain ⟨I6, f6, m, hm⟩ := AtTurn.leave I3 (fun b hb => (f3 b hb).1) I5
      refine ⟨m, hm, fun h2 sb => ⟨.ref _, H5, FpOk_drop f6 I6 ?_, rfl, q⟩⟩
      intro b o hb e
      rw [← e]
      exact sb.2 b hb)
    w0 ⟨block_start I3 P.blk P.nd f3, t4, fun b hb => (f3 b hb).1.1⟩
  exact PpSet.codeAny_compStart_set loop (T.self X.A 0 _ _ _ t4 loop)
end
def dc2Go (t : Tg) (ft : DnB) (fi1 : DnL) (t1 : Tg) (ft1 : DnB) (fk : Dn) (vs1 : List Nat) (ρ : Rho) : List PyData → List (List Int) → R (List (List Int))
  | [], acc => .ok acc
  | d :: ds, acc => match t.set d ρ with
    | some ρ1 => nx (ft ρ1) fun b => if b = true then nx (fi1 ρ1) fun es => nx (dcGo t1 ft1 fk (wipeR ρ1 vs1) es acc) fun acc' => dc2Go t ft fi1 t1 ft1 fk vs1 ρ ds acc' else dc2Go t ft fi1 t1 ft1 fk vs1 ρ ds acc
    | none => .bad
theorem dc2Go_more {t : Tg} {ft : DnB} {fi1 : DnL} {t1 : Tg} {ft1 : DnB} {fk : Dn} {vs1 : List Nat} {ρ : Rho} : ∀ {ds : List PyData} {acc ks : List (List Int)}, dc2Go t ft fi1 t1 ft1 fk vs1 ρ ds acc = .ok ks → acc.length ≤ ks.length
  | [], acc, ks, h => by cases h; exact Nat.le_refl _
  | d :: ds, acc, ks, h => by
    unfold dc2Go at h
    cases et : t.set d ρ with
    | none => rw [et] at h; cases h
    | some ρ1 =>
      rw [et] at h
      obtain ⟨b, _, h⟩ := nx_ok h
      cases b with
      | false => exact dc2Go_more h
      | true =>
        obtain ⟨es, _, h⟩ := nx_ok h
        obtain ⟨acc', e, h⟩ := nx_ok h
        exact Nat.le_trans (dcGo_more e).1 (dc2Go_more h)
def dSortSc2 (fi : DnL) (t : Tg) (ft : DnB) (fi1 : DnL) (t1 : Tg) (ft1 : DnB) (fe : Dn) (vs vs1 : List Nat) : Dn := fun ρ => fi ρ >>= fun ds => nx (dc2Go t ft fi1 t1 ft1 fe vs1 (wipeR ρ vs) ds []) fun ks => if ks.length < 63 ∧ (ks.all fun k => decide (k.length ≤ sizeLine)) = true then .ok (.list (sortD (ks.map fun k => .tuple (k.map .int)))) else .bad
section
variable {K : PySem.W.Frag} {Tb : List Addr} {P : Program} {w : World}
/-- the turns of the inner clause: what it tells goes into the set at D -/
theorem in_turnsS {t : Tg} {ft : DnB} {fk : Dn} {vs : List Nat} {σ σB : L2.St} {ρ ρB : Rho} {H0 H1 : Hp} {O0 O : List Addr} {J : It} {D : Addr} {ds : List PyData} {acc0 acc1 : List (List Int)} {L0 : List (Addr × List Int)} {Nx : Hp → Prop} (hv : ∀ i ∈ t.ixs, i ∈ vs) (mD : D ∈ O) (mD0 : D ∉ O0)
    (own : ∀ (i : Nat) (s : Sl), s.Hold → ρ[i]? = some (some s) → σ[i]? ≠ some (some (.ref D))) (ownB : ∀ (i : Nat) (s : Sl), s.Hold → ρB[i]? = some (some s) → σB[i]? ≠ some (some (.ref D)))
    (stA : St0 K Tb H0 O0 O H1 σ ρ) (stB : St0 K Tb H0 O0 O H1 σB ρB) (it : ItD K (hide O H1) J ds) (hgo : dcGo t ft fk (wipeR ρ vs) ds acc0 = .ok acc1) (hD0 : H1 D = some (SetTO P w D L0)) (hk0 : ∀ q ∈ L0, SqT K (hide O H1) q.1 (q.2.map V.int)) (p0 : (L0.map (·.2)).Perm acc0) (zl : acc1.length < 63)
    (fin : ∀ L H', St0 K Tb H0 O0 O H' σB ρB → Ext (hide [D] H1) H' → H' D = some (SetTO P w D L) → (∀ q ∈ L, SqT K (hide O H') q.1 (q.2.map V.int)) → (L.map (·.2)).Perm acc1 → Nx H') :
    ∃ W1 : Nat → Nat → Hp → Prop, (∃ m, W1 0 m H1) ∧ ∀ j k H, W1 j k H → (J.stop j H ∧ Nx H) ∨ (J.go j H ∧ ∃ Nx1 : Hp → Prop, (∀ H', Nx1 H' → ∃ k', k' < k ∧ W1 (j + 1) k' H') ∧ ∀ x H', J.yld j H x H' → memTurn K P w σ vs (tG K Tb t) (tDT K Tb W0 ft) (tD K Tb W0 fk) D Nx1 x H') := by
  have stw := stA.wiped vs
  have ownW : ∀ (i : Nat) (s : Sl), s.Hold → (wipeR ρ vs)[i]? = some (some s) → (L2.wipe σ vs)[i]? ≠ some (some (.ref D)) := fun i xs hs h1 h2 => by
    obtain ⟨g1, g2⟩ := wipeR_some h1
    rw [wipe_out g2] at h2
    exact own i xs hs g1 h2
  have nO : ∀ b ∈ O, hide O H1 b = none := fun b hb => hide_in hb
  have eO : Ext (hide O H1) (hide [D] H1) := by
    have sub : ∀ b o, hide O H1 b = some o → hide [D] H1 b = some o := fun b o h => by
      obtain ⟨h1, h2⟩ := hide_some h
      rw [hide_out (by simp only [List.mem_singleton]; exact fun z => h1 (by rw [z]; exact mD))]
      exact h2
    refine ⟨fun b o h _ => sub b o h, fun b t => t.mono (fun ps h => sub b _ h) fun c q h => sub c _ h, fun b h => ?_⟩
    cases q : hide O H1 b with
    | none => exact absurd q h
    | some x => rw [sub b x q]; simp
  have nD : hide [D] H1 D = none := hide_in (by simp)
  refine ⟨fun i m H' => i ≤ ds.length ∧ m = ds.length - i ∧ ∃ L acc, St0 K Tb H0 O0 O H' (L2.wipe σ vs) (wipeR ρ vs) ∧ St0 K Tb H0 O0 O H' σB ρB ∧ Ext (hide [D] H1) H' ∧ H' D = some (SetTO P w D L) ∧ (∀ q ∈ L, SqT K (hide O H') q.1 (q.2.map V.int)) ∧ (L.map (·.2)).Perm acc ∧ dcGo t ft fk (wipeR ρ vs) (ds.drop i) acc = .ok acc1,
    ⟨ds.length, Nat.zero_le _, by simp, L0, acc0, stw, stB, Ext.unhide, hD0, hk0, p0, hgo⟩, ?_⟩
  rintro i m H' ⟨hi, rfl, L, acc, s1, sB, e1, hD, hk, pm, go⟩
  have eG : Ext (hide O H1) H' := eO.trans e1
  have few := (dcGo_more go).1
  have ll : L.length = acc.length := by rw [← pm.length_eq, List.length_map]
  by_cases hlt : i < ds.length
  · refine .inr ⟨it.go i H' eG hlt, fun H2 => i + 1 ≤ ds.length ∧ ∃ L acc, St0 K Tb H0 O0 O H2 (L2.wipe σ vs) (wipeR ρ vs) ∧ St0 K Tb H0 O0 O H2 σB ρB ∧ Ext (hide [D] H1) H2 ∧ H2 D = some (SetTO P w D L) ∧ (∀ q ∈ L, SqT K (hide O H2) q.1 (q.2.map V.int)) ∧ (L.map (·.2)).Perm acc ∧ dcGo t ft fk (wipeR ρ vs) (ds.drop (i + 1)) acc = .ok acc1,
      fun H2 q => ⟨ds.length - (i + 1), by omega, q.1, rfl, q.2⟩, fun x H2 y => ?_⟩
    obtain ⟨e2, d, hd, rx⟩ := it.yld i H' O x H2 eG nO s1.al hlt y
    have hdr : ds.drop i = d :: ds.drop (i + 1) := by
      obtain ⟨hl, hd'⟩ := List.getElem?_eq_some_iff.mp hd
      rw [List.drop_eq_getElem_cons hl, hd']
    rw [hdr] at go
    unfold dcGo at go
    cases et : t.set d (wipeR ρ vs) with
    | none => rw [et] at go; cases go
    | some ρ1 =>
      rw [et] at go
      obtain ⟨b, eb, go⟩ := nx_ok go
      have s2 := s1.step e2
      refine ⟨H0, O0, O, wipeR ρ vs, ρ1, d, s2, rx, et, fun σ' st' ag => ⟨(ag.wipe hv).trans wipe_wipe, H0, O0, O, ρ1, st', ?_⟩⟩
      rw [eb]
      intro b' H3 e3 r3
      cases (show b' = b from r3)
      have s3 := st'.step e3
      have keepD : ∀ {G : Hp}, Ext H' G → G D = some (SetTO P w D L) := fun e => e.keep D _ hD (fun _ q => by cases q)
      cases b with
      | false => exact ⟨hlt, L, acc, s2.step e3, sB.step (e2.trans e3), e1.trans (e2.trans e3), keepD (e2.trans e3), fun x hx => (Sub.hide (e2.trans e3).keep).sqT (hk x hx), pm, go⟩
      | true =>
        obtain ⟨yd, ey1, go⟩ := nx_ok go
        refine ⟨H0, O0, O, ρ1, s3, ?_⟩
        rw [ey1]
        intro y H4 e4 r4
        cases ek : asTu yd with
        | none => rw [ek] at go; cases go
        | some key =>
          rw [ek] at go
          obtain ⟨p, rfl, hp⟩ := asTu_rp r4 ek
          have e24 := (e2.trans e3).trans e4
          have hD4 := keepD e24
          have s4 := (s2.step e3).step e4
          have sB4 := sB.step e24
          have hk4 : ∀ x ∈ L, SqT K (hide O H4) x.1 (x.2.map V.int) := fun x hx => (Sub.hide e24.keep).sqT (hk x hx)
          refine ⟨L, p, key, rfl, hD4, fun x hx => Sub.unhide.sqT (hk4 x hx), by omega, Sub.unhide.sqT hp, fun L' n1 n2 => ⟨hlt, L', if key ∈ acc then acc else acc ++ [key], s4.hidO mD mD0 hD4 (plain_setT P w D _) (plain_setT P w D _) ownW setT_xd, sB4.hidO mD mD0 hD4 (plain_setT P w D _) (plain_setT P w D _) ownB setT_xd, (e1.trans e24).updN nD (fun c q z => (plain_setT P w D _).1 c q (Option.some.inj (hD4.symm.trans z))), upd_same, ?_, ?_, go⟩⟩
          · rw [hide_upd mD]
            by_cases c : key ∈ L.map (·.2)
            · rw [n1 c]; exact hk4
            · intro x hx
              rcases List.mem_cons.mp ((n2 c).mem_iff.mp hx) with rfl | hx
              · exact hp
              · exact hk4 x hx
          · by_cases c : key ∈ L.map (·.2)
            · rw [n1 c, if_pos (pm.mem_iff.mp c)]; exact pm
            · rw [if_neg (fun z => c (pm.mem_iff.mpr z))]
              exact ((n2 c).map (fun x : Addr × List Int => x.2)).trans ((pm.cons key).trans (List.perm_append_singleton key acc).symm)
  · have ei : i = ds.length := by omega
    subst ei
    refine .inl ⟨it.stop H' eG, ?_⟩
    rw [List.drop_length] at go
    cases go
    exact fin L H' sB e1 hD hk pm
end
end PD
set_option Elab.async false
set_option linter.all false
set_option maxRecDepth 100000
set_option maxHeartbeats 1000000
namespace PD
open PySem PySem.Spec PyProof.Rows L2
section
variable {X : Cx} {Tb : List Addr} {W : WX}
theorem sc2_walk {K : PySem.W.Frag} {P : Program} {w : World} {t t1 : Tg} {ft ft1 : DnB} {fk : Dn} {fi fi1 : DnL} {vs vs1 : List Nat} {σ : L2.St} {H : Hp} {Q : VK} (hv : ∀ i ∈ t.ixs, i ∈ vs) (hv1 : ∀ i ∈ t1.ixs, i ∈ vs1) (h : tD K Tb W (dSortSc2 fi t ft fi1 t1 ft1 fk vs vs1) σ H Q) :
    tScT2 K P w (tI K Tb W fi) (tG K Tb t) (tDT K Tb W0 ft) (tI K Tb W0 fi1) (tG K Tb t1) (tDT K Tb W0 ft1) (tD K Tb W0 fk) vs vs1 σ H (fun x H1 => rSortScT K P w [x] H1 Q) := by
  obtain ⟨H0, O0, O, ρ, st, h⟩ := h
  refine ⟨H0, O0, O, ρ, st, Post.then h fun ds J H1 e it k => ?_⟩
  cases q : dc2Go t ft fi1 t1 ft1 fk vs1 (wipeR ρ vs) ds [] with
  | exc x => rw [q] at k; exact k.elim
  | bad => rw [q] at k; exact k.elim
  | ok ks =>
    rw [q, nx_ok'] at k
    split at k
    case isFalse => exact k.elim
    rename_i lim
    have st1 := st.step e
    intro D nD
    have aD : D ∉ O := st1.fresh nD
    have stw := (st1.wiped vs).more (o := SetTO P w D []) nD (plain_setT P w D [])
    have aD0 : D ∉ O0 := fun m => aD (st1.sub D m)
    have own : ∀ (i : Nat) (s : Sl), s.Hold → (wipeR ρ vs)[i]? = some (some s) → (L2.wipe σ vs)[i]? ≠ some (some (.ref D)) := fun i s hs h1 h2 => aD ((st1.wiped vs).hold hs h1 h2).1
    have nO : ∀ b ∈ D :: O, hide O H1 b = none := fun b hb => by
      rcases List.mem_cons.mp hb with rfl | hb
      · exact hide_none nD
      · exact hide_in hb
    refine ⟨fun i m H' => i ≤ ds.length ∧ m = ds.length - i ∧ ∃ L acc, St0 K Tb H0 O0 (D :: O) H' (L2.wipe σ vs) (wipeR ρ vs) ∧ Ext H1 H' ∧ H' D = some (SetTO P w D L) ∧ (∀ q ∈ L, SqT K (hide (D :: O) H') q.1 (q.2.map V.int)) ∧ (L.map (·.2)).Perm acc ∧ dc2Go t ft fi1 t1 ft1 fk vs1 (wipeR ρ vs) (ds.drop i) acc = .ok ks,
      ⟨ds.length, Nat.zero_le _, by simp, [], [], stw, Ext.new nD, upd_same, by simp, .refl _, q⟩, ?_⟩
    rintro i m H' ⟨hi, rfl, L, acc, s1, e1, hD, hk, pm, go⟩
    have eG : Ext (hide O H1) H' := Ext.unhide.trans e1
    by_cases hlt : i < ds.length
    · refine .inr ⟨it.go i H' eG hlt, fun H2 => i + 1 ≤ ds.length ∧ ∃ L acc, St0 K Tb H0 O0 (D :: O) H2 (L2.wipe σ vs) (wipeR ρ vs) ∧ Ext H1 H2 ∧ H2 D = some (SetTO P w D L) ∧ (∀ q ∈ L, SqT K (hide (D :: O) H2) q.1 (q.2.map V.int)) ∧ (L.map (·.2)).Perm acc ∧ dc2Go t ft fi1 t1 ft1 fk vs1 (wipeR ρ vs) (ds.drop (i + 1)) acc = .ok ks,
        fun H2 q => ⟨ds.length - (i + 1), by omega, q.1, rfl, q.2⟩, fun x H2 y => ?_⟩
      obtain ⟨e2, d, hd, rx⟩ := it.yld i H' (D :: O) x H2 eG nO s1.al hlt y
      have hdr : ds.drop i = d :: ds.drop (i + 1) := by
        obtain ⟨hl, hd'⟩ := List.getElem?_eq_some_iff.mp hd
        rw [List.drop_eq_getElem_cons hl, hd']
      rw [hdr] at go
      unfold dc2Go at go
      cases et : t.set d (wipeR ρ vs) with
      | none => rw [et] at go; cases go
      | some ρ1 =>
        rw [et] at go
        obtain ⟨b, eb, go⟩ := nx_ok go
        have s2 := s1.step e2
        refine ⟨H0, O0, D :: O, wipeR ρ vs, ρ1, d, s2, rx, et, fun σ2 st2 ag => ⟨(ag.wipe hv).trans wipe_wipe, H0, O0, D :: O, ρ1, st2, ?_⟩⟩
        rw [eb]
        intro b' H3 e3 r3
        cases (show b' = b from r3)
        have s3 := st2.step e3
        have keepD : ∀ {G : Hp}, Ext H' G → G D = some (SetTO P w D L) := fun e => e.keep D _ hD (fun _ q => by cases q)
        cases b with
        | false => exact ⟨hlt, L, acc, s2.step e3, e1.trans (e2.trans e3), keepD (e2.trans e3), fun x hx => (Sub.hide (e2.trans e3).keep).sqT (hk x hx), pm, go⟩
        | true =>
          obtain ⟨es, ee, go⟩ := nx_ok go
          obtain ⟨acc1, ea, go⟩ := nx_ok go
          have few := dc2Go_more go
          refine ⟨H0, O0, D :: O, ρ1, s3, ?_⟩
          rw [ee]
          intro J1 H4 e4 it1
          have e24 := (e2.trans e3).trans e4
          have hD4 := keepD e24
          have s4 := s3.step e4
          have sB := (s2.step e3).step e4
          have own1 : ∀ (i : Nat) (s : Sl), s.Hold → ρ1[i]? = some (some s) → σ2[i]? ≠ some (some (.ref D)) := fun i xs hs h1 h2 => by
            have g1 := tg_own hs h1 et
            obtain ⟨_, g2⟩ := wipeR_some g1
            rw [ag.2 i fun m => g2 (hv i m)] at h2
            exact own i xs hs g1 h2
          refine in_turnsS (acc0 := acc) (acc1 := acc1) hv1 List.mem_cons_self aD0 own1 own s4 sB it1 ea hD4 (fun x hx => (Sub.hide e24.keep).sqT (hk x hx)) pm (by have := lim.1; omega) fun L' H5 sB5 e5 hD5 hk5 pm5 => ?_
          exact ⟨hlt, L', acc1, sB5, ext_past (e1.trans e24) nD (fun c q z => (plain_setT P w D _).1 c q (Option.some.inj (hD4.symm.trans z))) e5, hD5, hk5, pm5, go⟩
    · have ei : i = ds.length := by omega
      subst ei
      refine .inl ⟨it.stop H' eG, ?_⟩
      rw [List.drop_length] at go
      cases go
      refine ⟨hide (D :: O) H', D, L, rfl, Sub.unhide, hD, fun q hq => ⟨hk q hq, ?_⟩, fun p L1 ys pL hp hy ry => ?_⟩
      · exact of_decide_eq_true (List.all_eq_true.mp lim.2 q.2 (pm.mem_iff.mp (List.mem_map.mpr ⟨q, hq, rfl⟩)))
      · have e1' : L1.map tuD = (L1.map (·.2)).map fun k => PyData.tuple (k.map .int) := by rw [List.map_map]; rfl
        rw [e1', sortD_perm ((pL.map (·.2)).trans pm)] at ry
        have pO : p ∉ D :: O := fun m => s1.al p m hp
        refine k (.ref p) _ (e1.trans (Ext.new hp)) (.lst (xs := ys) (.of ?_) ?_ (ry.mono fun b o hb _ => ?_))
        · rw [hide_out (fun m => pO (List.mem_cons_of_mem _ m)), upd_same]
        · rw [← ry.length, sizeLine_eq]; omega
        · obtain ⟨n1, hb⟩ := hide_some hb
          rw [hide_out (fun m => n1 (List.mem_cons_of_mem _ m)), upd_ne (ne_of_none hb hp)]
          exact hb
variable {kx tg iter tg1 i1 : Expr} {ifs ifs1 : List Expr} {scope : Scope} {own : List (Str × Nat)} {vs1 : List Nat} {pos pos2 p : Pos}
/-- sorted({e for t in i if c for t1 in i1 if c1}) -/
theorem fd_sortSc2 {k : Nat} {fi fi1 : DnL} {t t1 : Tg} {ft ft1 : DnB} {fk : Dn} (hr : Room k X.A) (B : Bi X.mg) (hc : X.calm = true) (hN : X.N.Nodup) (hi : PI X tg iter (tI X.K Tb W fi)) (ok : BlkOk X.N X.env.scope scope own)
    (hg : ∀ (s : Shared) (H : Hp) (C : Addr) (cl : List (Str × Addr)) (fp : List Addr), PG (X.blk s H scope (compEnvC scope cl C X.env) fp) tg (tG X.K Tb t))
    (ht : ∀ (s : Shared) (H : Hp) (C : Addr) (cl : List (Str × Addr)) (fp : List Addr), PTs (X.blk s H scope (compEnvC scope cl C X.env) fp) ifs (tDT X.K Tb W0 ft))
    (hi1 : ∀ (s : Shared) (H : Hp) (C : Addr) (cl : List (Str × Addr)) (fp : List Addr), PI (X.blk s H scope (compEnvC scope cl C X.env) fp) tg1 i1 (tI X.K Tb W0 fi1))
    (hg1 : ∀ (s : Shared) (H : Hp) (C : Addr) (cl : List (Str × Addr)) (fp : List Addr), PG (X.blk s H scope (compEnvC scope cl C X.env) fp) tg1 (tG X.K Tb t1))
    (ht1 : ∀ (s : Shared) (H : Hp) (C : Addr) (cl : List (Str × Addr)) (fp : List Addr), PTs (X.blk s H scope (compEnvC scope cl C X.env) fp) ifs1 (tDT X.K Tb W0 ft1))
    (hk : ∀ (s : Shared) (H : Hp) (C : Addr) (cl : List (Str × Addr)) (fp : List Addr), PE (X.blk s H scope (compEnvC scope cl C X.env) fp) kx (tD X.K Tb W0 fk))
    (hG : Gl X "sorted" := by rfl) (hvv : ∀ i ∈ vs1, i ∈ own.map (·.2) := by decide) (hv : ∀ i ∈ t.ixs, i ∈ own.map (·.2) := by decide) (hv1 : ∀ i ∈ t1.ixs, i ∈ vs1 := by decide) (hs : ∀ x, foldedSetIterable iter X.env x = pure x := by intro _; rfl) (hs1 : ∀ env x, foldedSetIterable i1 env x = pure x := by intro _ _; rfl)
    (n2 : starEach [.SetComp kx [⟨tg, iter, ifs, 0⟩, ⟨tg1, i1, ifs1, 0⟩] scope pos2] X.env = (false, eval (.SetComp kx [⟨tg, iter, ifs, 0⟩, ⟨tg1, i1, ifs1, 0⟩] scope pos2) X.env) :: starEach [] X.env := by rfl) :
    PE X (.Call (.Name "sorted" p) [.SetComp kx [⟨tg, iter, ifs, 0⟩, ⟨tg1, i1, ifs1, 0⟩] scope pos2] [] pos) (tD X.K Tb W (dSortSc2 fi t ft fi1 t1 ft1 fk (own.map (·.2)) vs1)) :=
  (pe_callB (cr_sortScT hc hr.u64) hG B.sorted boot_sorted (pa_cons (pe_scT2 hr.u64 hc hN hi ok hvv hg ht hi1 hg1 ht1 hk hs hs1) pa_nil n2) (by decide) (by decide) n2 (by rfl)).by fun σ H Q h => sc2_walk hv hv1 h
end
end PD
set_option Elab.async false
set_option linter.all false
set_option maxRecDepth 100000
set_option maxHeartbeats 1000000
namespace PD
open PySem PySem.Spec PyProof.Rows L2
end PD
set_option Elab.async false
set_option linter.all false
set_option maxRecDepth 100000
set_option maxHeartbeats 1000000
namespace PD
open PySem PySem.Spec PyProof.Rows L2 HotX L2H
end PD
set_option Elab.async false
set_option linter.all false
set_option maxRecDepth 100000
set_option maxHeartbeats 1000000
namespace PD
open PySem PySem.Spec PyProof.Rows L2
end PD
set_option Elab.async false
set_option linter.all false
set_option maxRecDepth 100000
set_option maxHeartbeats 1000000
namespace PD
open PySem PySem.Spec PySem.W PySem.Calls PyProof.Rows
end PD
set_option Elab.async false
set_option linter.all false
set_option maxRecDepth 100000
set_option maxHeartbeats 1000000
namespace PD
open PySem PySem.Spec PyProof.Rows L2
end PD
set_option Elab.async false
set_option linter.all false
set_option maxRecDepth 100000
set_option maxHeartbeats 1000000
namespace PD
open PySem PySem.Spec PyProof.Rows L2
end PD
set_option Elab.async false
set_option linter.all false
set_option maxRecDepth 100000
set_option maxHeartbeats 1000000
namespace PD
open PySem PySem.Spec PyProof.Rows L2
end PD
set_option Elab.async false
set_option linter.all false
set_option maxRecDepth 100000
set_option maxHeartbeats 1000000
namespace PD
open PySem PySem.Spec PyProof.Rows L2
/-- the value at a key -/
def getK (kvs : List (Int × PyData)) (k : Int) : Option PyData := (kvs.find? fun x => decide (x.1 = k)).map (·.2)
/-- a store: in its place, or at the end -/
def putKD (kvs : List (Int × PyData)) (k : Int) (v : PyData) : List (Int × PyData) := if (kvs.any fun x => decide (x.1 = k)) = true then kvs.map (fun x => if x.1 = k then (x.1, v) else x) else kvs ++ [(k, v)]
def mergeKD (kvs more : List (Int × PyData)) : List (Int × PyData) := more.foldl (fun acc x => putKD acc x.1 x.2) kvs
/-- a dict reads as data -/
def DkR (K : PySem.W.Frag) (G : Hp) (vs : List (Key × V)) (ds : List (Int × PyData)) : Prop := vs.map (·.1) = ds.map (fun x => Sum.inl x.1) ∧ RpAll K G (vs.map (·.2)) (ds.map (·.2))
section
variable {K : PySem.W.Frag} {G G' : Hp}
theorem DkR.nil : DkR K G [] [] := ⟨rfl, .nil⟩
theorem DkR.cons {a : Int} {v : V} {d : PyData} {vs : List (Key × V)} {ds : List (Int × PyData)} (r : Rp K G v d) (h : DkR K G vs ds) : DkR K G ((Sum.inl a, v) :: vs) ((a, d) :: ds) := ⟨by rw [List.map_cons, List.map_cons, h.1], .cons r h.2⟩
theorem DkR.inv {p : Key × V} {q : Int × PyData} {vs : List (Key × V)} {ds : List (Int × PyData)} (h : DkR K G (p :: vs) (q :: ds)) : p.1 = Sum.inl q.1 ∧ Rp K G p.2 q.2 ∧ DkR K G vs ds := by
  obtain ⟨h1, h2⟩ := h
  rw [List.map_cons, List.map_cons] at h1 h2
  injection h1 with h1 h3
  cases h2 with
  | cons a b => exact ⟨h1, a, h3, b⟩
theorem DkR.mono (s : Sub G G') {vs : List (Key × V)} {ds : List (Int × PyData)} (h : DkR K G vs ds) : DkR K G' vs ds := ⟨h.1, h.2.mono s⟩
theorem DkR.len {vs : List (Key × V)} {ds : List (Int × PyData)} (h : DkR K G vs ds) : vs.length = ds.length := by
  have := congrArg List.length h.1
  rwa [List.length_map, List.length_map] at this
theorem inl_iff {a k : Int} : ((Sum.inl a : Key) = Sum.inl k) ↔ a = k := ⟨fun z => by injection z, fun z => by rw [z]⟩
theorem DkR.any (k : Int) : ∀ {vs : List (Key × V)} {ds : List (Int × PyData)}, DkR K G vs ds → (vs.any fun x => decide (x.1 = Sum.inl k)) = ds.any fun x => decide (x.1 = k)
  | [], [], _ => rfl
  | [], _ :: _, h => by cases h.1
  | _ :: _, [], h => by cases h.1
  | p :: vs, q :: ds, h => by
    obtain ⟨h1, _, h3⟩ := h.inv
    rw [List.any_cons, List.any_cons, h3.any k, h1]
    congr 1
    exact decide_eq_decide.mpr inl_iff
theorem DkR.repl (k : Int) {v : V} {d : PyData} (r : Rp K G v d) : ∀ {vs : List (Key × V)} {ds : List (Int × PyData)}, DkR K G vs ds → DkR K G (vs.map fun x => if x.1 = Sum.inl k then (x.1, v) else x) (ds.map fun x => if x.1 = k then (x.1, d) else x)
  | [], [], _ => .nil
  | [], _ :: _, h => by cases h.1
  | _ :: _, [], h => by cases h.1
  | p :: vs, q :: ds, h => by
    obtain ⟨h1, h2, h3⟩ := h.inv
    obtain ⟨a, b⟩ := p
    obtain ⟨c, e⟩ := q
    have h1 : a = Sum.inl c := h1
    subst h1
    rw [List.map_cons, List.map_cons]
    by_cases hc : c = k
    · rw [if_pos (inl_iff.mpr hc), if_pos hc]
      exact .cons r (h3.repl k r)
    · rw [if_neg (fun z => hc (inl_iff.mp z)), if_neg hc]
      exact .cons h2 (h3.repl k r)
theorem DkR.snoc {k : Int} {v : V} {d : PyData} (r : Rp K G v d) : ∀ {vs : List (Key × V)} {ds : List (Int × PyData)}, DkR K G vs ds → DkR K G (vs ++ [(Sum.inl k, v)]) (ds ++ [(k, d)])
  | [], [], _ => .cons r .nil
  | [], _ :: _, h => by cases h.1
  | _ :: _, [], h => by cases h.1
  | p :: vs, q :: ds, h => by
    obtain ⟨h1, h2, h3⟩ := h.inv
    obtain ⟨a, b⟩ := p
    obtain ⟨c, e⟩ := q
    have h1 : a = Sum.inl c := h1
    subst h1
    exact .cons h2 (h3.snoc r)
theorem DkR.put {k : Int} {v : V} {d : PyData} (r : Rp K G v d) {vs : List (Key × V)} {ds : List (Int × PyData)} (h : DkR K G vs ds) : DkR K G (putK vs (Sum.inl k) v) (putKD ds k d) := by
  unfold putK putKD
  rw [h.any k]
  split
  · exact h.repl k r
  · exact h.snoc r
theorem DkR.merge : ∀ {more : List (Key × V)} {ms : List (Int × PyData)} {vs : List (Key × V)} {ds : List (Int × PyData)}, DkR K G more ms → DkR K G vs ds → DkR K G (mergeK vs more) (mergeKD ds ms)
  | [], [], _, _, _, h => h
  | [], _ :: _, _, _, m, _ => by cases m.1
  | _ :: _, [], _, _, m, _ => by cases m.1
  | p :: more, q :: ms, vs, ds, m, h => by
    obtain ⟨h1, h2, h3⟩ := m.inv
    obtain ⟨a, b⟩ := p
    obtain ⟨c, e⟩ := q
    have h1 : a = Sum.inl c := h1
    subst h1
    show DkR K G (mergeK (putK vs (Sum.inl c) b) more) (mergeKD (putKD ds c e) ms)
    exact h3.merge (h.put h2)
theorem DkR.val {k : Int} {d : PyData} : ∀ {vs : List (Key × V)} {ds : List (Int × PyData)}, DkR K G vs ds → getK ds k = some d → ∃ v, valV vs (Sum.inl k) = some v ∧ Rp K G v d
  | [], [], _, e => by cases e
  | [], _ :: _, h, _ => by cases h.1
  | _ :: _, [], h, _ => by cases h.1
  | p :: vs, q :: ds, h, e => by
    obtain ⟨h1, h2, h3⟩ := h.inv
    unfold getK at e
    rw [List.find?_cons] at e
    by_cases c : q.1 = k
    · rw [decide_eq_true c] at e
      cases e
      exact ⟨p.2, valV_pos (by rw [h1, c]), h2⟩
    · rw [decide_eq_false c] at e
      obtain ⟨v, e1, e2⟩ := h3.val (k := k) (d := d) e
      exact ⟨v, by rw [valV_neg (fun z => c (inl_iff.mp (h1.symm.trans z)))]; exact e1, e2⟩
theorem DkR.none {k : Int} : ∀ {vs : List (Key × V)} {ds : List (Int × PyData)}, DkR K G vs ds → getK ds k = none → valV vs (Sum.inl k) = none
  | [], [], _, e => rfl
  | [], _ :: _, h, _ => by cases h.1
  | _ :: _, [], h, _ => by cases h.1
  | p :: vs, q :: ds, h, e => by
    obtain ⟨h1, h2, h3⟩ := h.inv
    unfold getK at e
    rw [List.find?_cons] at e
    by_cases c : q.1 = k
    · rw [decide_eq_true c] at e
      cases e
    · rw [decide_eq_false c] at e
      rw [valV_neg (fun z => c (inl_iff.mp (h1.symm.trans z)))]
      exact h3.none e
end
def dPs : List (Dn × Dn) → Rho → R (List (Int × PyData))
  | [], _ => .ok []
  | (f, g) :: r, ρ => f ρ >>= fun a => g ρ >>= fun b => dPs r ρ >>= fun ps => match a with
    | .int k => .ok ((k, b) :: ps)
    | _ => .bad
abbrev RlPs (K : PySem.W.Frag) (O : List Addr) : Hp → List (V × V) → List (Int × PyData) → Prop := fun H xs ds => xs.map (·.1) = ds.map (fun x => V.int x.1) ∧ RpAll K (hide O H) (xs.map (·.2)) (ds.map (·.2))
theorem ps_pairs {K : PySem.W.Frag} {Tb : List Addr} {W : WX} {H0 : Hp} {O0 O : List Addr} {ρ : Rho} {σ : L2.St} : ∀ (ps : List (Dn × Dn)) {H : Hp} {Q : List (V × V) → Hp → Prop}, St0 K Tb H0 O0 O H σ ρ → Post K O (RlPs K O) (fun c d H => W c d σ H) H (dPs ps ρ) Q → tPairs (ps.map fun p => (tD K Tb W p.1, tD K Tb W p.2)) σ H Q
  | [], H, Q, st, h => h [] H (Ext.refl H) ⟨rfl, .nil⟩
  | (f, g) :: ps, H, Q, st, h => by
    refine ⟨H0, O0, O, ρ, st, Post.then h fun d v H1 e1 r1 k1 => ⟨H0, O0, O, ρ, st.step e1, Post.then k1 fun d2 v2 H2 e2 r2 k2 => ps_pairs ps ((st.step e1).step e2) (Post.then k2 fun ds xs H3 e3 r3 k3 => ?_)⟩⟩
    cases d with
    | int k =>
      cases r1
      exact k3 _ H3 (Ext.refl H3) ⟨by rw [List.map_cons, List.map_cons, r3.1], .cons (r2.mono (Sub.hide e3.keep)) r3.2⟩
    | _ => exact k3.elim
/-- x = {k: v, ..} -/
def gDisp (i : Nat) (ps : List (Dn × Dn)) : Sn := fun ρ => oR (dPs ps ρ) ρ fun ds => if ds.length ≤ 15 then .nx (ρ.set i (some (.dk (mergeKD [] ds)))) else .bad
theorem plain_dk (kvs : List (Key × V)) : Plain (.dK kvs) := ⟨fun _ _ h => (by unfold LamX.CodeO at h; cases h), fun _ h => (by cases h)⟩
theorem pairs_dk {K : PySem.W.Frag} {G : Hp} : ∀ {xs : List (V × V)} {ds : List (Int × PyData)}, xs.map (·.1) = ds.map (fun x => V.int x.1) → RpAll K G (xs.map (·.2)) (ds.map (·.2)) → ∃ kvs : List (Key × V), xs = kvs.map (fun kv => (kV kv.1, kv.2)) ∧ DkR K G kvs ds
  | [], [], _, _ => ⟨[], rfl, .nil⟩
  | [], _ :: _, h, _ => by cases h
  | _ :: _, [], h, _ => by cases h
  | (a, b) :: xs, (c, d) :: ds, h, r => by
    rw [List.map_cons, List.map_cons] at h r
    injection h with h1 h2
    cases r with
    | cons r0 rr =>
      obtain ⟨kvs, e, rel⟩ := pairs_dk h2 rr
      have h1 : a = V.int c := h1
      exact ⟨(Sum.inl c, b) :: kvs, by rw [e, h1]; rfl, .cons r0 rel⟩
section
variable {X : Cx} {Tb : List Addr} {W : WX} {pos p : Pos} {x : Str}
theorem fs_disp {i : Nat} {ps : List (Dn × Dn)} {keys : List (Option Expr)} {values : List Expr} {pos' dpos : Pos} (hN : X.N.Nodup) (hi : X.N[i]? = some x) (hx : Loc X.env.scope x) (h : PPs X dpos keys values (ps.map fun p => (tD X.K Tb W p.1, tD X.K Tb W p.2)))
    (hall : keys.all (·.isSome) = true := by rfl) (hl : keys.length = values.length := by rfl) (h0 : keys ≠ [] := by decide) (h15 : keys.length ≤ 15 := by decide)
    (hs : swapsWith (.Dict keys values dpos) (some (.Name x pos')) pos.line X.env = pure false := by rfl)
    (hf : X.fn x = true ∨ X.env.scope.names.lookup x = some .local := by first | exact .inl rfl | exact .inr rfl | assumption) : PS X (.Assign [.Name x pos'] (.Dict keys values dpos) pos) (tS X.K Tb W (gDisp i ps)) :=
  (ps_set hN hi hx (pe_disp h hall hl h0 h15) hs hf).by fun D σ H ⟨H0, O0, O, ρ, st, h⟩ => fun q hq => by
    have e1 : Ext H (upd H q (.dK [])) := Ext.new hq
    have nO : q ∉ O := st.fresh hq
    have stm := st.more (o := .dK []) hq (plain_dk [])
    unfold gDisp at h
    refine ps_pairs ps stm (oR_post stm h fun ds xs H2 ex r k => ?_)
    split at k
    · rename_i h15'
      have hq2 : H2 q = some (.dK []) := ex.keep q _ upd_same (fun _ z => by cases z)
      obtain ⟨kvs, e, rel⟩ := pairs_dk r.1 r.2
      refine ⟨hq2, kvs, e, by rw [rel.len]; exact h15', ?_⟩
      refine k (q :: O) _ _ (st.holdNew ((e1.trans ex).updN hq (fun c q' z => (plain_dk []).1 c q' (Option.some.inj (hq2.symm.trans z)))) hq upd_same (plain_dk _) ⟨q, _, rfl, List.mem_cons_self, fun m => nO (st.sub q m), upd_same, ?_⟩)
      rw [hide_upd List.mem_cons_self]
      exact rel.merge .nil
    · exact k.elim
end
end PD
set_option Elab.async false
set_option linter.all false
set_option maxRecDepth 100000
set_option maxHeartbeats 1000000
namespace PD
open PySem PySem.Spec PyProof.Rows L2
def asKv : List (PyData × PyData) → Option (List (Int × PyData))
  | [] => some []
  | (.int k, v) :: l => match asKv l with
    | some r => some ((k, v) :: r)
    | none => none
  | _ => none
def asDk : PyData → Option (List (Int × PyData))
  | .dict ((.bool true, .none) :: l) => asKv l
  | _ => none
theorem asKv_map : ∀ ks : List (Int × PyData), asKv (ks.map fun x => (PyData.int x.1, x.2)) = some ks
  | [] => rfl
  | x :: ks => by rw [List.map_cons, asKv, asKv_map ks]
@[simp] theorem asDk_dkD (ks : List (Int × PyData)) : asDk (dkD ks) = some ks := asKv_map ks
section
variable {K : PySem.W.Frag} {G H : Hp} {O : List Addr}
theorem asDk_rp {v : V} {d : PyData} {ks : List (Int × PyData)} (r : Rp K G v d) (h : asDk d = some ks) : ∃ a o kvs, v = .ref a ∧ G a = some (.frz o (.dK kvs)) ∧ DkR K G kvs ks := by
  cases r with
  | non => cases h
  | bl b => cases h
  | int i => cases h
  | str x => cases h
  | lst _ _ _ => cases h
  | tup _ _ _ => cases h
  | @dct a ep xs h1 h2 =>
    cases xs with
    | nil => cases h
    | cons x xs => cases h
  | ins _ _ _ => cases h
  | dk h1 h2 h3 =>
    rw [asDk_dkD] at h
    cases h
    exact ⟨_, _, _, rfl, h1, h2, h3⟩
theorem dk_get {a : Addr} {o : Obj} {kvs : List (Key × V)} {k : Int} (h : hide O H a = some (.frz o (.dK kvs))) : DGet H a (.int k) (valV kvs (.inl k)) := .inl ⟨kvs, .inl k, .inr ⟨o, (hide_some h).2⟩, rfl, rfl⟩
theorem DkR.some {vs : List (Key × V)} {ds : List (Int × PyData)} (k : Int) (h : DkR K G vs ds) : (valV vs (.inl k)).isSome = (getK ds k).isSome := by
  cases hg : getK ds k with
  | none => rw [h.none hg]; rfl
  | some d => obtain ⟨w, e, _⟩ := h.val hg; rw [e]; rfl
end
/-- d[k] -/
def oDix (d e : PyData) : R PyData := match asDk d, e with
  | some ks, .int k => (match getK ks k with | some v => .ok v | none => .bad)
  | _, _ => .bad
section
variable {X : Cx} {Tb : List Addr} {W : WX} {a b : Expr} {f g : Dn} {pos : Pos} {k : Nat} {σ : L2.St} {H : Hp} {Q : VK}
theorem e_dix (hr : Room k X.A) (ha : PE X a (tD X.K Tb W f)) (hb : PE X b (tD X.K Tb W g)) (hs : NoSl b := by intro _ _; rfl) : PE X (.Subscript a b pos) (tD X.K Tb W (dTwo oDix f g)) :=
  (pe_dget (show X.A.units + 1 < cLine by have := hr.u65; omega) ha hb hs).by fun σ H Q ⟨H0, O0, O, ρ, st, h⟩ => ⟨H0, O0, O, ρ, st, Post.then h fun d v H1 e1 r1 k1 => ⟨H0, O0, O, ρ, st.step e1, Post.then k1 fun y u H2 e2 r2 k2 => by
    unfold oDix at k2
    split at k2
    · rename_i ks kk hk
      obtain ⟨a, o, kvs, rfl, hG, rel⟩ := asDk_rp (Rp.mono (Sub.hide e2.keep) r1) hk
      cases r2
      split at k2
      · rename_i w hg
        obtain ⟨u, e3, r3⟩ := rel.val hg
        exact ⟨a, u, rfl, by rw [← e3]; exact dk_get hG, k2 u H2 (Ext.refl _) r3⟩
      · exact k2.elim
    · exact k2.elim⟩⟩
end
/-- e in x, e not in x -/
def dDkNin (i : Nat) (f : Dn) : Dn := fun ρ => match ρ[i]? with
  | some (some (.dk kvs)) => f ρ >>= fun d => match d with
    | .int k => .ok (.bool (!(getK kvs k).isSome))
    | _ => .bad
  | _ => .bad
def gDkPut (i : Nat) (fk fv : Dn) : Sn := fun ρ => match ρ[i]? with
  | some (some (.dk kvs)) => oR (fv ρ) ρ fun v => oR (fk ρ) ρ fun d => (match d with
    | .int k => if kvs.length < sizeLine then .nx (ρ.set i (some (.dk (putKD kvs k v)))) else .bad
    | _ => .bad)
  | _ => .bad
section
variable {X : Cx} {Tb : List Addr} {W : WX} {pos : Pos} {x : Str} {i k : Nat} {e : Expr} {f : Dn} {npos : Pos} {σ : L2.St} {H : Hp} {Q : VK}
theorem dkNin_read {K : PySem.W.Frag} (h : tD K Tb W (dDkNin i f) σ H Q) : tDNotIn (tD K Tb W f) (fun σ H Q => ∃ v, σ[i]? = some (some v) ∧ Q v H) σ H Q := by
  obtain ⟨H0, O0, O, ρ, st, h⟩ := h
  unfold dDkNin at h
  split at h
  · rename_i kvs hk
    refine ⟨H0, O0, O, ρ, st, Post.then h fun d y H1 ex rv k => ?_⟩
    obtain ⟨v, h1, p, vs, rfl, m, m0, hp, rel⟩ := st.slot i _ hk
    cases d with
    | int kk =>
      cases rv
      have hp1 := ex.keep p _ hp (fun _ z => by cases z)
      exact ⟨.ref p, h1, p, valV vs (Sum.inl kk), rfl, DGet.k (k := Sum.inl kk) hp1, by rw [DkR.some kk (show DkR K (hide O H) vs kvs from rel)]; exact k _ H1 (Ext.refl H1) (.bl _)⟩
    | _ => exact k.elim
  · exact h.elim
theorem t_dkNin (hr : Room k X.A) (ho : X.N[i]? = some x) (hv : Vis X.env.scope x) (he : PE X e (tD X.K Tb W f)) (hd : (x == ("__debug__" : Str)) = false := by decide) (hcd : (x == ("__classdict__" : Str)) = false := by decide) :
    PT X (.Compare e [.NotIn] [.Name x npos] pos) (tDT X.K Tb W (dAsB (dDkNin i f))) :=
  (pt_cmp (pc_dnotin (show X.A.units + 1 < cLine by have := hr.u65; omega) he (pe_var ho hv hd hcd)) rfl).by fun σ H Q ⟨H0, O0, O, ρ, st, h⟩ => dkNin_read (W := W) ⟨H0, O0, O, ρ, st, Post.asB h⟩
theorem fs_dkPut {value : Expr} {fv : Dn} {spos : Pos} (hr : Room k X.A) (ho : X.N[i]? = some x) (hv : Vis X.env.scope x) (he : PE X e (tD X.K Tb W f)) (hval : PE X value (tD X.K Tb W fv)) (hd : (x == ("__debug__" : Str)) = false := by decide) (hcd : (x == ("__classdict__" : Str)) = false := by decide)
    (hs : swapsWith value (some (.Subscript (.Name x npos) e spos)) pos.line X.env = pure false := by rfl) :
    PS X (.Assign [.Subscript (.Name x npos) e spos] value pos) (tS X.K Tb W (gDkPut i f fv)) :=
  (ps_dput (show X.A.units + 1 < cLine by have := hr.u65; omega) (pe_var ho hv hd hcd) he hval hs).by fun D σ H ⟨H0, O0, O, ρ, st, h⟩ => by
    unfold gDkPut at h
    split at h
    · rename_i kvs hk
      obtain ⟨v, h1, p, vs, rfl, m, m0, hp, rel⟩ := st.slot i _ hk
      refine ⟨H0, O0, O, ρ, st, oR_post st h fun w u H1 e1 rv k1 => ⟨.ref p, h1, H0, O0, O, ρ, st.step e1, oR_post (st.step e1) k1 fun d y H2 e2 rk k2 => ?_⟩⟩
      split at k2
      · rename_i kk
        cases rk
        split at k2
        · rename_i hl
          have hp2 := (e1.trans e2).keep p _ hp (fun _ z => by cases z)
          have rel : DkR X.K (hide O H) vs kvs := rel
          refine ⟨p, _, rfl, DPut.k (k := Sum.inl kk) hp2 (by rw [rel.len]; exact hl), k2 O σ _ (((st.step e1).step e2).holdSet (s0 := .dk kvs) trivial trivial hk h1 hp2 (plain_dk _) (plain_dk _) (fun _ z => by cases z) ⟨p, _, rfl, m, m0, upd_same, ?_⟩)⟩
          rw [hide_upd m]
          exact DkR.put (Rp.mono (Sub.hide e2.keep) rv) (rel.mono (Sub.hide (e1.trans e2).keep))
        · exact k2.elim
      · exact k2.elim
    · exact h.elim
end
section
variable {X : Cx}
theorem pss_seal {sts : List Stmt} {t : TS} (h : PSs X sts t) : PSs X sts (fun D σ H => ∃ p kvs, H p = some (.dK kvs) ∧ ∀ od, t D σ (upd H p (.frz od (.dK kvs)))) :=
  ⟨fun pins s σ H D I ⟨p, kvs, hp, q⟩ => by
    obtain ⟨od, I1⟩ := I.lock hp trivial
    exact h.run pins s σ _ D I1 (q od)⟩
theorem pe_seal {e : Expr} {t : TE} (h : PE X e t) : PE X e (fun σ H Q => t σ H fun v H' => ∃ p kvs, v = .ref p ∧ H' p = some (.dK kvs) ∧ ∀ od, Q v (upd H' p (.frz od (.dK kvs)))) :=
  ⟨fun pins s σ H Q I q => thn (h.run pins s σ H _ I q) fun u s1 ⟨v, H', I', r, p, kvs, e, hp, k⟩ => by
    obtain ⟨od, I1⟩ := I'.lock hp trivial
    exact ⟨v, _, I1, r, k od⟩⟩
end
def frzK (i : Nat) (ρ : Rho) : Option Rho := match ρ[i]? with
  | some (some (.dk ks)) => some (ρ.set i (some (.d (dkD ks))))
  | _ => none
def gFrzK (i : Nat) (g : Sn) : Sn := fun ρ => match frzK i ρ with
  | some ρ' => g ρ'
  | none => .bad
section
variable {K : PySem.W.Frag} {Tb : List Addr} {W : WX} {H0 H H' : Hp} {O0 O : List Addr} {ρ : Rho} {σ : L2.St} {p : Addr} {D : Ends}
theorem plain_frz (od : Obj) (u : HO) : Plain (.frz od u) := ⟨fun _ _ h => (by unfold LamX.CodeO at h; cases h), fun _ h => (by cases h)⟩
/-- slot i is looked at no more -/
theorem St0.lose {i : Nat} (st : St0 K Tb H0 O0 O H σ ρ) : St0 K Tb H0 O0 O H σ (ρ.set i none) where
  ext := st.ext
  sub := st.sub
  new := st.new
  al := st.al
  tab := st.tab
  pln := st.pln
  len := by rw [List.length_set]; exact st.len
  slot := fun j s h => by
    by_cases e : i = j
    · subst e
      by_cases il : i < ρ.length
      · rw [List.getElem?_set_self il] at h; cases h
      · rw [List.getElem?_eq_none (by rw [List.length_set]; omega)] at h; cases h
    · rw [List.getElem?_set_ne e] at h
      exact st.slot j s h
  inj := fun j k q xs ys hx hy h1 h2 h3 h4 => by
    have key : ∀ (j : Nat) (s : Sl), (ρ.set i none)[j]? = some (some s) → ρ[j]? = some (some s) := fun j s h => by
      by_cases e : i = j
      · subst e
        by_cases il : i < ρ.length
        · rw [List.getElem?_set_self il] at h; cases h
        · rw [List.getElem?_eq_none (by rw [List.length_set]; omega)] at h; cases h
      · rw [List.getElem?_set_ne e] at h
        exact h
    exact st.inj j k q xs ys hx hy (key _ _ h1) (key _ _ h2) h3 h4
/-- what is held by no slot is hidden no more -/
theorem St0.show {i : Nat} {d : PyData} (st : St0 K Tb H0 O0 O H σ ρ) (il : i < ρ.length) (hp : σ[i]? = some (some (.ref p))) (m0 : p ∉ O0) (hs : ∀ (i : Nat) (s : Sl), s.Hold → ρ[i]? = some (some s) → σ[i]? ≠ some (some (.ref p))) (r : Rp K (hide (O.filter fun b => decide (b ≠ p)) H) (.ref p) d) :
    St0 K Tb H0 O0 (O.filter fun b => decide (b ≠ p)) H σ (ρ.set i (some (.d d))) := by
  have mem : ∀ b, b ∈ O.filter (fun b => decide (b ≠ p)) ↔ b ∈ O ∧ b ≠ p := fun b => by rw [List.mem_filter, decide_eq_true_eq]
  have sub : Sub (hide O H) (hide (O.filter fun b => decide (b ≠ p)) H) := Sub.less fun b hb => ((mem b).mp hb).1
  refine ⟨st.ext, fun b hb => (mem b).mpr ⟨st.sub b hb, fun e => m0 (by rw [← e]; exact hb)⟩, fun b hb => st.new b ((mem b).mp hb).1, fun b hb => st.al b ((mem b).mp hb).1, st.tab, fun b hb => st.pln b ((mem b).mp hb).1, by rw [List.length_set]; exact st.len, fun j s h => ?_, fun j k q xs ys hx hy h2 h3 h4 h5 => ?_⟩
  · by_cases ej : i = j
    · subst ej
      rw [List.getElem?_set_self il] at h
      cases h
      exact ⟨_, hp, r⟩
    · rw [List.getElem?_set_ne ej] at h
      obtain ⟨v, g1, g2⟩ := st.slot j s h
      exact ⟨v, g1, g2.mv sub (fun hx q ev mq _ => ⟨(mem q).mpr ⟨mq, fun e => hs j s hx h (by rw [g1, ev, e])⟩, fun o hq _ => hq⟩) fun _ _ h => h⟩
  · by_cases ej : i = j
    · subst ej
      rw [List.getElem?_set_self il] at h2
      cases h2
      exact hx.elim
    · by_cases ek : i = k
      · subst ek
        rw [List.getElem?_set_self il] at h3
        cases h3
        exact hy.elim
      · rw [List.getElem?_set_ne ej] at h2
        rw [List.getElem?_set_ne ek] at h3
        exact st.inj j k q xs ys hx hy h2 h3 h4 h5
theorem fs_frzK {X : Cx} {sts : List Stmt} {g : Sn} (i : Nat) (h1 : PSs X sts (tS X.K Tb W g)) : PSs X sts (tS X.K Tb W (gFrzK i g)) := (pss_seal h1).by fun D σ H ⟨H0, O0, O, ρ, st, q⟩ => by
  unfold gFrzK frzK at q
  split at q
  · rename_i ρ' e
    split at e
    · rename_i ks hi
      cases e
      obtain ⟨v, h1, p, vs, rfl, m, m0, hp, rel⟩ := st.slot i _ hi
      have il : i < ρ.length := (List.getElem?_eq_some_iff.mp hi).1
      refine ⟨p, vs, hp, fun od => ?_⟩
      have own : ∀ (j : Nat) (s : Sl), s.Hold → (ρ.set i none)[j]? = some (some s) → σ[j]? ≠ some (some (.ref p)) := fun j s hs h2 h3 => by
        by_cases e : i = j
        · subst e; rw [List.getElem?_set_self il] at h2; cases h2
        · rw [List.getElem?_set_ne e] at h2
          exact e (st.inj i j p (.dk ks) s trivial hs hi h2 h1 h3)
      have st1 := (st.lose (i := i)).hidO (o' := .frz od (.dK vs)) m m0 hp (plain_dk _) (plain_frz _ _) own
      have st2 := st1.show (i := i) (d := dkD ks) (by rw [List.length_set]; exact il) h1 m0 own (by
        refine .dk (o := od) (kvs := vs) ?_ rel.1 ?_
        · rw [hide_out (fun hb => by have := (List.mem_filter.mp hb).2; simp at this), upd_same]
        · refine rel.2.mono (Sub.trans ?_ (Sub.less fun b hb => (List.mem_filter.mp hb).1))
          rw [hide_upd m]
          exact fun _ _ h _ => h)
      rw [List.set_set] at st2
      exact ⟨H0, O0, _, _, st2, q⟩
    · cases e
  · exact q.elim
end
def keysK (d : PyData) : R (List PyData) := match asDk d with
  | some ks => if ks.length ≤ sizeLine then .ok (ks.map fun x => .int x.1) else .bad
  | none => .bad
def dKeysK (f : Dn) : DnL := fun ρ => f ρ >>= keysK
section
variable {X : Cx} {Tb : List Addr} {W : WX} {tg : Expr}
theorem itd_dk {K : PySem.W.Frag} {G : Hp} {a : Addr} {o : Obj} {kvs : List (Key × V)} {ks : List (Int × PyData)} (h : G a = some (.frz o (.dK kvs))) (r : DkR K G kvs ks) (z : ks.length ≤ sizeLine) : ItD K G (Itk a o kvs) (ks.map fun x => .int x.1) where
  len := by rw [List.length_map]; exact z
  go := fun i H' e hi => by
    rw [List.length_map, ← r.len] at hi
    exact ⟨e.keep a _ h (fun _ q => by cases q), hi⟩
  yld := fun i H' O' x H'' e n al hi y => by
    obtain ⟨rfl, k, v, hk, rfl⟩ := y
    have e1 : (kvs.map (·.1))[i]? = some k := by rw [List.getElem?_map, hk]; rfl
    rw [r.1, List.getElem?_map] at e1
    cases e2 : ks[i]? with
    | none => rw [e2] at e1; cases e1
    | some q =>
      rw [e2] at e1
      have e1 : Sum.inl q.1 = k := by injection e1
      subst e1
      exact ⟨Ext.refl _, .int q.1, by rw [List.getElem?_map, e2]; rfl, .int q.1⟩
  stop := fun H' e => ⟨e.keep a _ h (fun _ q => by cases q), by rw [List.length_map, r.len]; exact Nat.le_refl _⟩
theorem fi_keysK {l : Expr} {f : Dn} (hl : PE X l (tD X.K Tb W f)) : PI X tg l (tI X.K Tb W (dKeysK f)) := (pi_keys hl).by fun σ H R ⟨H0, O0, O, ρ, st, h⟩ => ⟨H0, O0, O, ρ, st, by
  refine Post.then h fun d v H1 e r k => ?_
  unfold keysK at k
  split at k
  · rename_i ks hk
    split at k
    · rename_i z
      obtain ⟨a, o, kvs, rfl, hG, rel⟩ := asDk_rp r hk
      exact ⟨a, o, rfl, .inl ⟨kvs, (hide_some hG).2, k _ H1 (Ext.refl _) (itd_dk hG rel z)⟩⟩
    · exact k.elim
  · exact k.elim⟩
end
end PD
set_option Elab.async false
set_option linter.all false
set_option maxRecDepth 100000
set_option maxHeartbeats 1000000
namespace PD
open PySem PySem.Spec PyProof.Rows L2
def dkGo (t : Tg) (ft : DnB) (fk fv : Dn) (ρ : Rho) : List PyData → List (Int × PyData) → R (List (Int × PyData))
  | [], acc => .ok acc
  | d :: ds, acc => match t.set d ρ with
    | some ρ1 => nx (ft ρ1) fun b => if b = true then nx (fk ρ1) fun y => nx (fv ρ1) fun z => (match y with
        | .int k => dkGo t ft fk fv ρ ds (putKD acc k z)
        | _ => .bad) else dkGo t ft fk fv ρ ds acc
    | none => .bad
def dDcK (fi : DnL) (t : Tg) (ft : DnB) (fk fv : Dn) (vs : List Nat) : Dn := fun ρ => fi ρ >>= fun ds => nx (dkGo t ft fk fv (wipeR ρ vs) ds []) fun ks => .ok (dkD ks)
theorem putKD_len (kvs : List (Int × PyData)) (k : Int) (v : PyData) : (putKD kvs k v).length ≤ kvs.length + 1 := by
  unfold putKD
  split
  · rw [List.length_map]; omega
  · rw [List.length_append]; exact Nat.le_refl _
section
variable {X : Cx} {Tb : List Addr} {W : WX}
theorem dk_walk {K : PySem.W.Frag} {t : Tg} {ft : DnB} {fk fv : Dn} {fi : DnL} {vs : List Nat} {σ : L2.St} {H : Hp} {Q : VK} (hv : ∀ i ∈ t.ixs, i ∈ vs) (h : tD K Tb W (dDcK fi t ft fk fv vs) σ H Q) :
    tDc (tI K Tb W fi) (tG K Tb t) (tDT K Tb W0 ft) (tD K Tb W0 fk) (tD K Tb W0 fv) vs σ H (fun v H' => ∃ p kvs, v = .ref p ∧ H' p = some (.dK kvs) ∧ ∀ od, Q v (upd H' p (.frz od (.dK kvs)))) := by
  obtain ⟨H0, O0, O, ρ, st, h⟩ := h
  refine ⟨H0, O0, O, ρ, st, Post.then h fun ds J H1 e it k => ?_⟩
  cases q : dkGo t ft fk fv (wipeR ρ vs) ds [] with
  | exc x => rw [q] at k; exact k.elim
  | bad => rw [q] at k; exact k.elim
  | ok ks =>
    rw [q] at k
    have st1 := st.step e
    intro D nD
    have aD : D ∉ O := st1.fresh nD
    have stw := (st1.wiped vs).more (o := .dK []) nD (plain_dk [])
    have aD0 : D ∉ O0 := fun m => aD (st1.sub D m)
    have own : ∀ (i : Nat) (s : Sl), s.Hold → (wipeR ρ vs)[i]? = some (some s) → (L2.wipe σ vs)[i]? ≠ some (some (.ref D)) := fun i s hs h1 h2 => aD ((st1.wiped vs).hold hs h1 h2).1
    have nO : ∀ b ∈ D :: O, hide O H1 b = none := fun b hb => by
      rcases List.mem_cons.mp hb with rfl | hb
      · exact hide_none nD
      · exact hide_in hb
    refine ⟨fun i m H' => i ≤ ds.length ∧ m = ds.length - i ∧ ∃ kvs acc, St0 K Tb H0 O0 (D :: O) H' (L2.wipe σ vs) (wipeR ρ vs) ∧ Ext H1 H' ∧ H' D = some (.dK kvs) ∧ DkR K (hide (D :: O) H') kvs acc ∧ acc.length ≤ i ∧ dkGo t ft fk fv (wipeR ρ vs) (ds.drop i) acc = .ok ks,
      ⟨ds.length, Nat.zero_le _, by simp, [], [], stw, Ext.new nD, upd_same, .nil, Nat.le_refl _, q⟩, ?_⟩
    rintro i m H' ⟨hi, rfl, kvs, acc, s1, e1, hD, hk, la, go⟩
    have eG : Ext (hide O H1) H' := Ext.unhide.trans e1
    by_cases hlt : i < ds.length
    · refine .inr ⟨it.go i H' eG hlt, fun H2 => i + 1 ≤ ds.length ∧ ∃ kvs acc, St0 K Tb H0 O0 (D :: O) H2 (L2.wipe σ vs) (wipeR ρ vs) ∧ Ext H1 H2 ∧ H2 D = some (.dK kvs) ∧ DkR K (hide (D :: O) H2) kvs acc ∧ acc.length ≤ i + 1 ∧ dkGo t ft fk fv (wipeR ρ vs) (ds.drop (i + 1)) acc = .ok ks,
        fun H2 q => ⟨ds.length - (i + 1), by omega, q.1, rfl, q.2⟩, fun x H2 y => ?_⟩
      obtain ⟨e2, d, hd, rx⟩ := it.yld i H' (D :: O) x H2 eG nO s1.al hlt y
      have hdr : ds.drop i = d :: ds.drop (i + 1) := by
        obtain ⟨hl, hd'⟩ := List.getElem?_eq_some_iff.mp hd
        rw [List.drop_eq_getElem_cons hl, hd']
      rw [hdr] at go
      unfold dkGo at go
      cases et : t.set d (wipeR ρ vs) with
      | none => rw [et] at go; cases go
      | some ρ1 =>
        rw [et] at go
        obtain ⟨b, eb, go⟩ := nx_ok go
        have s2 := s1.step e2
        refine ⟨H0, O0, D :: O, wipeR ρ vs, ρ1, d, s2, rx, et, fun σ' st' ag => ⟨(ag.wipe hv).trans wipe_wipe, H0, O0, D :: O, ρ1, st', ?_⟩⟩
        rw [eb]
        intro b' H3 e3 r3
        cases (show b' = b from r3)
        have s3 := st'.step e3
        cases b with
        | false =>
          exact ⟨hlt, kvs, acc, s2.step e3, (e1.trans e2).trans e3, (e2.trans e3).keep D _ hD (fun _ q => by cases q), hk.mono (Sub.hide (e2.trans e3).keep), Nat.le_succ_of_le la, go⟩
        | true =>
          obtain ⟨yd, ey1, go⟩ := nx_ok go
          obtain ⟨zd, ez1, go⟩ := nx_ok go
          refine ⟨H0, O0, D :: O, ρ1, s3, ?_⟩
          rw [ey1]
          intro y H4 e4 r4
          refine ⟨H0, O0, D :: O, ρ1, s3.step e4, ?_⟩
          rw [ez1]
          intro z H5 e5 r5
          cases yd with
          | int key =>
            have go : dkGo t ft fk fv (wipeR ρ vs) (ds.drop (i + 1)) (putKD acc key zd) = .ok ks := go
            cases r4
            have e25 := ((e2.trans e3).trans e4).trans e5
            have hD5 := e25.keep D _ hD (fun _ q => by cases q)
            have s5 := ((s2.step e3).step e4).step e5
            have hk5 := hk.mono (Sub.hide e25.keep)
            have zl : kvs.length < sizeLine := by have := it.len; have := hk.len; omega
            refine ⟨kvs, Sum.inl key, rfl, hD5, zl, hlt, _, _, s5.hidO List.mem_cons_self aD0 hD5 (plain_dk _) (plain_dk _) own, (e1.trans e25).updN nD (fun c q z => (plain_dk kvs).1 c q (Option.some.inj (hD5.symm.trans z))), upd_same, ?_, by have := putKD_len acc key zd; omega, go⟩
            rw [hide_upd List.mem_cons_self]
            exact hk5.put r5
          | _ => cases go
    · have ei : i = ds.length := by omega
      subst ei
      refine .inl ⟨it.stop H' eG, D, kvs, rfl, hD, fun od => ?_⟩
      rw [List.drop_length] at go
      cases go
      refine k _ (upd H' D (.frz od (.dK kvs))) (e1.updN nD (fun c q z => (plain_dk kvs).1 c q (Option.some.inj (hD.symm.trans z)))) ?_
      refine .dk (o := od) (kvs := kvs) (by rw [hide_out aD, upd_same]) hk.1 (hk.2.mono ?_)
      refine Sub.trans ?_ (Sub.less fun b hb => List.mem_cons_of_mem D hb)
      rw [hide_upd List.mem_cons_self]
      exact fun _ _ h _ => h
/-- {key: value for t in i if c} -/
theorem fd_dcK {kx vx tg iter : Expr} {ifs : List Expr} {scope : Scope} {own : List (Str × Nat)} {pos : Pos} {fi : DnL} {t : Tg} {ft : DnB} {fk fv : Dn} (hc : X.calm = true) (hN : X.N.Nodup) (hi : PI X tg iter (tI X.K Tb W fi)) (ok : BlkOk X.N X.env.scope scope own)
    (hg : ∀ (s : Shared) (H : Hp) (C : Addr) (cl : List (Str × Addr)) (fp : List Addr), PG (X.blk s H scope (compEnvC scope cl C X.env) fp) tg (tG X.K Tb t))
    (ht : ∀ (s : Shared) (H : Hp) (C : Addr) (cl : List (Str × Addr)) (fp : List Addr), PTs (X.blk s H scope (compEnvC scope cl C X.env) fp) ifs (tDT X.K Tb W0 ft))
    (hk : ∀ (s : Shared) (H : Hp) (C : Addr) (cl : List (Str × Addr)) (fp : List Addr), PE (X.blk s H scope (compEnvC scope cl C X.env) fp) kx (tD X.K Tb W0 fk))
    (he : ∀ (s : Shared) (H : Hp) (C : Addr) (cl : List (Str × Addr)) (fp : List Addr), PE (X.blk s H scope (compEnvC scope cl C X.env) fp) vx (tD X.K Tb W0 fv))
    (hv : ∀ i ∈ t.ixs, i ∈ own.map (·.2) := by decide) (hs : ∀ x, foldedSetIterable iter X.env x = pure x := by intro _; rfl) : PE X (.DictComp kx vx [⟨tg, iter, ifs, 0⟩] scope pos) (tD X.K Tb W (dDcK fi t ft fk fv (own.map (·.2)))) :=
  (pe_seal (pe_dc hc hN hi ok hg ht hk he hs)).by fun σ H Q h => dk_walk hv h
end
end PD
set_option Elab.async false
set_option linter.all false
set_option maxRecDepth 100000
set_option maxHeartbeats 1000000
namespace PD
open PySem PySem.Spec PyProof.Rows L2
section
variable {prog : Program} {w : World} {A : Around} {E : Value → Shared → Prop} {s : Shared}
theorem min_list_atD {l : Addr} {vs : Array Value} {xs : List PyData} {as : List Addr} {d : Value} {Q : Value → Shared → Prop} (hh : A.handled = none) (hl : s.heap.IsList l vs) (hr : ReadsAll s.heap vs.toList xs as) (ha : PySem.W.AlikeAll xs) (hu : A.units + 1 + PyData.depthAll xs < cLine)
    (h0 : xs = [] → ∀ h' tk, (∀ b o, s.heap.get? b = some o → h'.get? b = some o) → Q d { s with heap := h', toks := tk })
    (h : ∀ (y : PyData) (ys : List PyData) (i : Nat) v h' tk, xs = y :: ys → vs[i]? = some v → (y :: ys).getD i .none = PySem.W.minD y ys → (∀ b o, s.heap.get? b = some o → h'.get? b = some o) → Q v { s with heap := h', toks := tk }) :
    wpAny (model prog w) A (call (.builtin "min") [.ref l] [(Str.ofString "default", d)]) Q E s := by
  have hn : vs.size = xs.length := PySem.W.readsAll_len hr
  refine call_min_walkD (PySem.W.iter_listW (A := A.in1) hh hl fun s₂ e W st hfp hw hk => ?_)
  refine ⟨_, _, _, _, _, _, _, s.heap, (fun i j => PySem.W.dataLt (xs.getD i .none) (xs.getD j .none)), rfl, W, st, hfp, hw, hk, fun hz s' m => ?_, fun hp => ⟨PySem.W.cmpIn_lt (A := A.in1) hr ha (by show A.units + 1 + _ < _; exact hu), fun v s' hP m => ?_⟩⟩
  · obtain ⟨h', tk, rfl, hk'⟩ := PySem.W.moved_old e rfl m
    exact h0 (List.eq_nil_of_length_eq_zero (by omega)) h' tk hk'
  · obtain ⟨h', tk, rfl, hk'⟩ := PySem.W.moved_old e rfl m
    cases xs with
    | nil => exact absurd hp (by rw [hn]; exact Nat.lt_irrefl 0)
    | cons y ys =>
      have e1 : vs.size - 1 = ys.length := by rw [hn]; rfl
      have e2 := (PySem.W.argBest_fold PySem.W.dataLt PyData.none y ys ys.length (Nat.le_refl _)).2
      rw [List.take_length] at e2
      rw [e1] at hP
      exact h y ys _ v h' tk rfl hP (by unfold PySem.W.minD; rw [← e2]) hk'
end
def bMinDf (a b : PyData) : R PyData := match a with
  | .list [] => .ok b
  | .list (x :: xs) => if okSort (x :: xs) = true then .ok (PySem.W.minD x xs) else .bad
  | _ => .bad
def rDf (K : PySem.W.Frag) (mn : PyData → List PyData → PyData) : V → V → Hp → VK → Prop := fun v z H Q => ∃ (G : Hp) (a : Addr) (xs : List V) (ds : List PyData), v = .ref a ∧ Sub G H ∧ SqL K H a xs ∧ RpAll K G xs ds ∧ okSort ds = true ∧ (ds = [] → Q z H) ∧
  ∀ y ys, ds = y :: ys → ∀ u, Rp K G u (mn y ys) → Q u H
theorem alike_ok {ds : List PyData} (h : okSort ds = true) : PySem.W.AlikeAll ds ∧ PyData.depthAll ds ≤ 60 := by
  obtain ⟨al, nn, dep⟩ := okSort_of h
  refine ⟨⟨al, fun e he z => ?_⟩, depthAll_le dep⟩
  rcases nn with nn | nn
  · obtain ⟨xs, e1⟩ := nn e he
    rw [z] at e1; cases e1
  · exact (nn e he).1 z
section
variable {X : Cx} {ta te : TE} {e dv : Expr} {pos pm kpos : Pos}
theorem pe_minDf (hc : X.calm = true) (hu : X.A.units + 64 < cLine) (hg : Gl X "min") (hm : X.mg "min" = none) (ha : PE X e ta) (hd : PE X dv te)
    (hs : backTo pos (starEach [e] X.env) = (false, eval e X.env) :: backTo pos (starEach [] X.env) := by rfl) (hpl : (backTo pos (starEach [e] X.env)).any (·.1) = false := by rfl) (he : starEach [e] X.env = (false, eval e X.env) :: starEach [] X.env := by rfl)
    (hall : (backToKw pos (keywordEach [⟨some "default", dv, kpos⟩] X.env)).all (·.1.isSome) = true := by rfl) (hnone : (backToKw pos (keywordEach [⟨some "default", dv, kpos⟩] X.env)).any (·.1.isNone) = false := by rfl)
    (hks : (backToKw pos (keywordEach [⟨some "default", dv, kpos⟩] X.env)).filterMap (·.1) = [Str.ofString "default"] := by rfl) :
    PE X (.Call (.Name "min" pm) [e] [⟨some "default", dv, kpos⟩] pos) (fun σ H Q => ta σ H fun v H1 => te σ H1 fun z H2 => rDf X.K PySem.W.minD v z H2 Q) := by
  refine ⟨fun pins s σ H Q I h => ?_⟩
  have hpa : PA X [e] _ := pa_cons ha pa_nil he
  have hk : PK X [⟨some "default", dv, kpos⟩] _ := pk_cons hd pk_nil
  refine wpAny_Call_Name_kw (ld_blt I hg hm boot_min ?_ (by decide) (by decide))
  refine PyProof.Rows.callWith_kw (thn (hpa.run pos pins s σ H (fun us H1 => match us with | [v] => te σ H1 fun z H2 => rDf X.K PySem.W.minD v z H2 Q | _ => False) I h) fun us s1 ⟨vs, H1, I1, r1, q1⟩ => ?_) hs hpl hall hnone
  obtain ⟨v, rfl⟩ : ∃ v, vs = [v] := by
    match vs, q1 with
    | [v], _ => exact ⟨v, rfl⟩
  refine thn (hk.run pos pins s1 σ H1 (fun zs H2 => match zs with | [z] => rDf X.K PySem.W.minD v z H2 Q | _ => False) I1 q1) fun ws s2 ⟨zs, H2, I2, r2, q2⟩ => ?_
  obtain ⟨z, rfl⟩ : ∃ z, zs = [z] := by
    match zs, q2 with
    | [z], _ => exact ⟨z, rfl⟩
  obtain ⟨G, a, xs, ds, e1, sub, hq, ra, ok, q0, q2⟩ := q2
  rw [hks]
  subst e1
  cases r1 with
  | cons r1 rr =>
    cases rr
    cases r1
    cases r2 with
    | cons rz rr =>
      cases rr
      obtain ⟨al, dep⟩ := alike_ok ok
      obtain ⟨its, rv, hl, _⟩ := I2.list hq
      obtain ⟨as, er⟩ := each_readsAll (rpAll_reads I2 sub ra rv fun d hd => nod_of_alike (al.1 d hd d hd))
      refine min_list_atD (vs := its.toArray) (I2.ok.hd hc) hl.isList er al (by omega) (fun hz h' tk hk => ⟨z, H2, I2.kept hk, rz, q0 hz⟩) fun y ys i v h' tk hy hv he hk => ?_
      rw [List.getElem?_toArray] at hv
      have hi : i < xs.length := by
        have := (List.getElem?_eq_some_iff.mp hv).1
        have := rv.length
        omega
      obtain ⟨u, hu2, ru⟩ := rv.get (List.getElem?_eq_getElem hi)
      rw [hv] at hu2
      cases hu2
      have rp := rpAll_nth ra (List.getElem?_eq_getElem hi)
      rw [hy, he] at rp
      exact ⟨_, H2, I2.kept hk, ru, q2 y ys hy _ rp⟩
end
section
variable {X : Cx} {Tb : List Addr} {W : WX} {e dv : Expr} {f g : Dn} {pos pm kpos : Pos} {k : Nat}
theorem df_read {K : PySem.W.Frag} {H : Hp} {σ : L2.St} {Q : VK} {mn : PyData → List PyData → PyData} {u : PyData → PyData → R PyData} (hu : ∀ a b, (∃ ds, a = .list ds ∧ (match ds with | [] => u a b = .ok b | x :: xs => u a b = if okSort (x :: xs) = true then .ok (mn x xs) else .bad)) ∨ u a b = .bad)
    (h : tD K Tb W (dTwo u f g) σ H Q) : tD K Tb W f σ H fun v H1 => tD K Tb W g σ H1 fun z H2 => rDf K mn v z H2 Q := by
  obtain ⟨H0, O0, O, ρ, st, h⟩ := h
  refine ⟨H0, O0, O, ρ, st, Post.then h fun d v H1 e1 r1 k1 => ⟨H0, O0, O, ρ, st.step e1, Post.then k1 fun y z H2 e2 r2 k2 => ?_⟩⟩
  rcases hu d y with ⟨ds, rfl, hd⟩ | hb
  · cases r1 with
    | lst h1 z1 a1 =>
      have a2 := a1.mono (Sub.hide e2.keep)
      have h2 := (Sub.hide e2.keep).sqL h1
      cases ds with
      | nil =>
        have hd : u (.list []) y = .ok y := hd
        rw [hd] at k2
        exact ⟨hide O H2, _, _, [], rfl, Sub.unhide, Sub.unhide.sqL h2, a2, rfl, fun _ => Post.here k2 r2, (fun y ys e => nomatch e)⟩
      | cons x xs =>
        have hd : u (.list (x :: xs)) y = if okSort (x :: xs) = true then .ok (mn x xs) else .bad := hd
        rw [hd] at k2
        split at k2
        · rename_i ok
          exact ⟨hide O H2, _, _, x :: xs, rfl, Sub.unhide, Sub.unhide.sqL h2, a2, ok, (fun e => nomatch e), fun y ys e w rw' => by cases e; exact Post.here k2 rw'⟩
        · exact k2.elim
  · rw [hb] at k2
    exact k2.elim
theorem e_minDf (B : Bi X.mg) (hr : Room k X.A) (ha : PE X e (tD X.K Tb W f)) (hd : PE X dv (tD X.K Tb W g)) (hc : X.calm = true := by rfl) (hg : Gl X "min" := by rfl)
    (hs : backTo pos (starEach [e] X.env) = (false, eval e X.env) :: backTo pos (starEach [] X.env) := by rfl) (hpl : (backTo pos (starEach [e] X.env)).any (·.1) = false := by rfl) (he : starEach [e] X.env = (false, eval e X.env) :: starEach [] X.env := by rfl)
    (hall : (backToKw pos (keywordEach [⟨some "default", dv, kpos⟩] X.env)).all (·.1.isSome) = true := by rfl) (hnone : (backToKw pos (keywordEach [⟨some "default", dv, kpos⟩] X.env)).any (·.1.isNone) = false := by rfl)
    (hks : (backToKw pos (keywordEach [⟨some "default", dv, kpos⟩] X.env)).filterMap (·.1) = [Str.ofString "default"] := by rfl) :
    PE X (.Call (.Name "min" pm) [e] [⟨some "default", dv, kpos⟩] pos) (tD X.K Tb W (dTwo bMinDf f g)) :=
  (pe_minDf hc hr.u64 hg B.min ha hd hs hpl he hall hnone hks).by fun σ H Q h => df_read (fun a b => by
    cases a with
    | list ds => exact .inl ⟨ds, rfl, by cases ds <;> rfl⟩
    | _ => exact .inr rfl) h
end
end PD
set_option Elab.async false
set_option linter.all false
set_option maxRecDepth 100000
set_option maxHeartbeats 1000000
namespace PD
open PySem PySem.Spec PyProof.Rows L2
inductive Vl where
  | p (d : PyData)
  | rf (l : Nat)
  | tp (xs : List Vl)
inductive Cell where
  | lst (xs : List Vl)
  | ins (C : Addr) (fs : List (Str × Vl))
  | dk (ks : List (Int × PyData))
abbrev Store := List Cell
abbrev RhoO := List (Option Vl)
mutual
inductive VlR (K : PySem.W.Frag) (G : Hp) (ι : List Addr) : V → Vl → Prop
  | p {v : V} {d : PyData} : Rp K G v d → VlR K G ι v (.p d)
  | rf {a : Addr} {l : Nat} : ι[l]? = some a → VlR K G ι (.ref a) (.rf l)
  | tp {a : Addr} {vs : List V} {xs : List Vl} : SqT K G a vs → xs.length ≤ sizeLine → VlRs K G ι vs xs → VlR K G ι (.ref a) (.tp xs)
inductive VlRs (K : PySem.W.Frag) (G : Hp) (ι : List Addr) : List V → List Vl → Prop
  | nil : VlRs K G ι [] []
  | cons {v : V} {vs : List V} {x : Vl} {xs : List Vl} : VlR K G ι v x → VlRs K G ι vs xs → VlRs K G ι (v :: vs) (x :: xs)
end
def CellR (K : PySem.W.Frag) (G H : Hp) (ι : List Addr) (a : Addr) : Cell → Prop
  | .lst xs => ∃ vs, H a = some (.lst vs) ∧ xs.length ≤ sizeLine ∧ VlRs K G ι vs xs
  | .ins C fs => ∃ dx gs, H a = some (.ins C dx gs) ∧ gs.map (·.1) = fs.map (·.1) ∧ VlRs K G ι (gs.map (·.2)) (fs.map (·.2))
  | .dk ks => ∃ kvs, H a = some (.dK kvs) ∧ DkR K G kvs ks
section
variable {K : PySem.W.Frag} {G G' : Hp} {ι ι' : List Addr}
theorem pre_get {l : Nat} {a : Addr} (p : ι <+: ι') (h : ι[l]? = some a) : ι'[l]? = some a := by
  obtain ⟨t, rfl⟩ := p
  rw [List.getElem?_append_left ((List.getElem?_eq_some_iff.mp h).1)]
  exact h
theorem VlR.mono (s : Sub G G') (p : ι <+: ι') {v : V} {x : Vl} (h : VlR K G ι v x) : VlR K G' ι' v x :=
  VlR.rec (motive_1 := fun v x _ => VlR K G' ι' v x) (motive_2 := fun vs xs _ => VlRs K G' ι' vs xs) (fun r => .p (Rp.mono s r)) (fun h => .rf (pre_get p h)) (fun a z _ b => .tp (s.sqT a) z b) .nil (fun _ _ a b => .cons a b) h
theorem VlRs.mono (s : Sub G G') (p : ι <+: ι') : ∀ {vs : List V} {xs : List Vl}, VlRs K G ι vs xs → VlRs K G' ι' vs xs
  | _, _, .nil => .nil
  | _, _, .cons a b => .cons (a.mono s p) (VlRs.mono s p b)
theorem VlRs.length : ∀ {vs : List V} {xs : List Vl}, VlRs K G ι vs xs → vs.length = xs.length
  | _, _, .nil => rfl
  | _, _, .cons _ t => by simp [VlRs.length t]
theorem VlRs.get : ∀ {vs : List V} {xs : List Vl} {i : Nat} {x : Vl}, VlRs K G ι vs xs → xs[i]? = some x → ∃ v, vs[i]? = some v ∧ VlR K G ι v x
  | _, _, _, _, .nil, h => by simp at h
  | _, _, 0, _, .cons r _, h => by simp at h; subst h; exact ⟨_, rfl, r⟩
  | _, _, i + 1, _, .cons _ t, h => by
    obtain ⟨v, h1, h2⟩ := VlRs.get (i := i) t (by simpa using h)
    exact ⟨v, by simpa using h1, h2⟩
theorem VlRs.append : ∀ {vs ws : List V} {xs ys : List Vl}, VlRs K G ι vs xs → VlRs K G ι ws ys → VlRs K G ι (vs ++ ws) (xs ++ ys)
  | _, _, _, _, .nil, q => q
  | _, _, _, _, .cons r t, q => .cons r (VlRs.append t q)
theorem VlRs.one {v : V} {x : Vl} (h : VlR K G ι v x) : VlRs K G ι [v] [x] := .cons h .nil
theorem VlRs.set {v : V} {x : Vl} (r : VlR K G ι v x) : ∀ {vs : List V} {xs : List Vl} (i : Nat), VlRs K G ι vs xs → VlRs K G ι (vs.set i v) (xs.set i x)
  | _, _, _, .nil => .nil
  | _, _, 0, .cons _ t => .cons r t
  | _, _, i + 1, .cons q t => .cons q (VlRs.set r i t)
theorem VlRs.erase : ∀ {vs : List V} {xs : List Vl} (i : Nat), VlRs K G ι vs xs → VlRs K G ι (vs.eraseIdx i) (xs.eraseIdx i)
  | _, _, _, .nil => .nil
  | _, _, 0, .cons _ t => t
  | _, _, i + 1, .cons q t => .cons q (VlRs.erase i t)
theorem VlRs.ofRp : ∀ {vs : List V} {ds : List PyData}, RpAll K G vs ds → VlRs K G ι vs (ds.map .p)
  | _, _, .nil => .nil
  | _, _, .cons a b => .cons (.p a) (VlRs.ofRp b)
theorem CellR.mono {H H' : Hp} (s : Sub G G') (p : ι <+: ι') {a : Addr} {c : Cell} (e : H' a = H a) (h : CellR K G H ι a c) : CellR K G' H' ι' a c := by
  cases c with
  | lst xs => obtain ⟨vs, h1, z, h2⟩ := h; exact ⟨vs, e.trans h1, z, h2.mono s p⟩
  | ins C fs => obtain ⟨dx, gs, h1, h2, h3⟩ := h; exact ⟨dx, gs, e.trans h1, h2, h3.mono s p⟩
  | dk ks => obtain ⟨kvs, h1, h2⟩ := h; exact ⟨kvs, e.trans h1, h2.mono s⟩
/-- what stands where a cell lies -/
def CellO (o : HO) : Prop := (∃ vs, o = .lst vs) ∨ (∃ C dx gs, o = .ins C dx gs) ∨ ∃ kvs, o = .dK kvs
theorem CellO.plain {o : HO} (h : CellO o) : Plain o := by
  rcases h with ⟨vs, rfl⟩ | ⟨C, dx, gs, rfl⟩ | ⟨kvs, rfl⟩
  · exact plain_lst vs
  · exact ⟨fun _ _ h => (by unfold LamX.CodeO at h; cases h), fun _ h => (by cases h)⟩
  · exact plain_dk kvs
theorem CellR.obj {H : Hp} {a : Addr} {c : Cell} (h : CellR K G H ι a c) : ∃ o, H a = some o ∧ CellO o := by
  cases c with
  | lst xs => obtain ⟨vs, h1, _⟩ := h; exact ⟨_, h1, .inl ⟨_, rfl⟩⟩
  | ins C fs => obtain ⟨dx, gs, h1, _⟩ := h; exact ⟨_, h1, .inr (.inl ⟨_, _, _, rfl⟩)⟩
  | dk ks => obtain ⟨kvs, h1, _⟩ := h; exact ⟨_, h1, .inr (.inr ⟨_, rfl⟩)⟩
end
structure BaseO (K : PySem.W.Frag) (Tb O ι : List Addr) (H : Hp) (S : Store) : Prop where
  al : Al O H
  tab : ∀ P ∈ Tb, TabC H P
  nd : ι.Nodup
  dj : ∀ b ∈ ι, b ∉ O
  len : ι.length = S.length
  cell : ∀ (l : Nat) (c : Cell) (a : Addr), S[l]? = some c → ι[l]? = some a → CellR K (hide (O ++ ι) H) H ι a c
structure TrO (ι : List Addr) (H : Hp) (ι' : List Addr) (H' : Hp) : Prop where
  pre : ι <+: ι'
  keep : ∀ b o, H b = some o → b ∉ ι → (∀ ps, o ≠ .tbl ps) → H' b = some o
  tab : ∀ b, TabC H b → TabC H' b
  al : ∀ b, H b ≠ none → H' b ≠ none
  new : ∀ b ∈ ι', b ∉ ι → H b = none
section
variable {K : PySem.W.Frag} {Tb O ι ι' ι1 ι2 : List Addr} {H H' H1 H2 : Hp} {S : Store}
theorem TrO.refl (ι : List Addr) (H : Hp) : TrO ι H ι H := ⟨List.prefix_refl _, fun _ _ h _ _ => h, fun _ h => h, fun _ h => h, fun _ h n => absurd h n⟩
theorem TrO.ext (e : Ext H H') : TrO ι H ι H' := ⟨List.prefix_refl _, fun b o h _ t => e.keep b o h t, e.tab, e.al, fun _ h n => absurd h n⟩
theorem TrO.trans (a : TrO ι H ι1 H1) (b : TrO ι1 H1 ι2 H2) : TrO ι H ι2 H2 where
  pre := a.pre.trans b.pre
  keep := fun c o h n t => b.keep c o (a.keep c o h n t) (fun m => by rw [a.new c m n] at h; cases h) t
  tab := fun c h => b.tab c (a.tab c h)
  al := fun c h => b.al c (a.al c h)
  new := fun c m n => by
    by_cases m1 : c ∈ ι1
    · exact a.new c m1 n
    · have h := b.new c m m1
      cases q : H c with
      | none => rfl
      | some o => exact absurd h (a.al c (by rw [q]; simp))
theorem TrO.sub (a : TrO ι H ι1 H1) : Sub (hide (O ++ ι) H) (hide (O ++ ι1) H1) := fun b o h t => by
  obtain ⟨h1, h2⟩ := hide_some h
  rw [List.mem_append, not_or] at h1
  rw [hide_out]
  · exact a.keep b o h2 h1.2 t
  · rw [List.mem_append, not_or]
    exact ⟨h1.1, fun m => by rw [a.new b m h1.2] at h2; cases h2⟩
theorem TrO.hid (a : TrO ι H ι1 H1) : Ext (hide (O ++ ι) H) H1 where
  keep := fun b o h t => by
    obtain ⟨h1, h2⟩ := hide_some h
    rw [List.mem_append, not_or] at h1
    exact a.keep b o h2 h1.2 t
  tab := fun b t => a.tab b (Ext.unhide.tab b t)
  al := fun b h => a.al b (Ext.unhide.al b h)
theorem BaseO.obj (B : BaseO K Tb O ι H S) {b : Addr} (m : b ∈ ι) : ∃ o, H b = some o ∧ CellO o := by
  obtain ⟨l, hl⟩ := List.mem_iff_getElem?.mp m
  have il : l < S.length := by rw [← B.len]; exact (List.getElem?_eq_some_iff.mp hl).1
  exact (B.cell l S[l] b (List.getElem?_eq_getElem il) hl).obj
theorem BaseO.alA (B : BaseO K Tb O ι H S) : Al (O ++ ι) H := fun b m => by
  rcases List.mem_append.mp m with m | m
  · exact B.al b m
  · obtain ⟨o, h, _⟩ := B.obj m; rw [h]; simp
theorem BaseO.step (B : BaseO K Tb O ι H S) (e : Ext H H') : BaseO K Tb O ι H' S where
  al := fun b m => e.al b (B.al b m)
  tab := fun P m => e.tab P (B.tab P m)
  nd := B.nd
  dj := B.dj
  len := B.len
  cell := fun l c a h1 h2 => by
    have r := B.cell l c a h1 h2
    obtain ⟨o, h, q⟩ := r.obj
    exact r.mono (Sub.hide e.keep) (List.prefix_refl _) (by rw [h]; exact e.keep a o h q.plain.2)
theorem nodup_inj {l : List Addr} (n : l.Nodup) {i j : Nat} {b : Addr} (h1 : l[i]? = some b) (h2 : l[j]? = some b) : i = j := by
  obtain ⟨a1, b1⟩ := List.getElem?_eq_some_iff.mp h1
  obtain ⟨a2, b2⟩ := List.getElem?_eq_some_iff.mp h2
  have p := List.pairwise_iff_getElem.mp n
  rcases Nat.lt_trichotomy i j with h | h | h
  · exact absurd (b1.trans b2.symm) (p i j a1 a2 h)
  · exact h
  · exact absurd (b2.trans b1.symm) (p j i a2 a1 h)
/-- a cell's place is written -/
theorem BaseO.put (B : BaseO K Tb O ι H S) {l : Nat} {a : Addr} {o' : HO} {c' : Cell} (ha : ι[l]? = some a) (r : CellR K (hide (O ++ ι) H) (upd H a o') ι a c') : BaseO K Tb O ι (upd H a o') (S.set l c') ∧ TrO ι H ι (upd H a o') := by
  have ma : a ∈ ι := List.mem_of_getElem? ha
  have il : l < ι.length := (List.getElem?_eq_some_iff.mp ha).1
  obtain ⟨o, ho, co⟩ := B.obj ma
  have hh : hide (O ++ ι) (upd H a o') = hide (O ++ ι) H := hide_upd (List.mem_append_right _ ma)
  have tab : ∀ b, TabC H b → TabC (upd H a o') b := fun b t => by
    have hb : b ≠ a := tabG_ne t fun ps q => by rw [ho] at q; exact co.plain.2 ps (Option.some.inj q)
    exact t.mono (fun ps h => by rw [upd_ne hb]; exact h) fun c q h => by
      rw [upd_ne fun z => by subst z; exact co.plain.1 _ q (Option.some.inj (ho.symm.trans h))]; exact h
  have al : ∀ b, H b ≠ none → upd H a o' b ≠ none := fun b h => by
    by_cases hb : b = a
    · rw [hb, upd_same]; simp
    · rw [upd_ne hb]; exact h
  refine ⟨⟨fun b m => al b (B.al b m), fun P m => tab P (B.tab P m), B.nd, B.dj, by rw [List.length_set]; exact B.len, fun k c b h1 h2 => ?_⟩, ⟨List.prefix_refl _, fun b x h n t => ?_, tab, al, fun _ h n => absurd h n⟩⟩
  · rw [hh]
    by_cases ek : l = k
    · subst ek
      rw [List.getElem?_set_self (by rw [← B.len]; exact il)] at h1
      cases h1
      rw [ha] at h2
      cases h2
      exact r
    · rw [List.getElem?_set_ne ek] at h1
      have hb : b ≠ a := fun e => by
        subst e
        exact ek (nodup_inj B.nd ha h2)
      exact (B.cell k c b h1 h2).mono (fun _ _ h _ => h) (List.prefix_refl _) (upd_ne hb)
  · rw [upd_ne fun e => n (by rw [e]; exact ma)]; exact h
/-- a new cell -/
theorem BaseO.more (B : BaseO K Tb O ι H S) (e : Ext H H') {a : Addr} {c : Cell} (n : H a = none) (r : CellR K (hide (O ++ (ι ++ [a])) H') H' (ι ++ [a]) a c) : BaseO K Tb O (ι ++ [a]) H' (S ++ [c]) ∧ TrO ι H (ι ++ [a]) H' := by
  have na : a ∉ ι := fun m => by obtain ⟨o, h, _⟩ := B.obj m; rw [n] at h; cases h
  have nO : a ∉ O := fun m => B.al a m n
  have new : ∀ b ∈ ι ++ [a], b ∉ ι → H b = none := fun b m h => by
    rcases List.mem_append.mp m with m | m
    · exact absurd m h
    · rw [List.mem_singleton.mp m]; exact n
  have tr : TrO ι H (ι ++ [a]) H' := ⟨List.prefix_append _ _, fun b o h _ t => e.keep b o h t, e.tab, e.al, new⟩
  refine ⟨⟨fun b m => e.al b (B.al b m), fun P m => e.tab P (B.tab P m), ?_, fun b m => ?_, by simp [B.len], fun k c' b h1 h2 => ?_⟩, tr⟩
  · exact List.nodup_append.mpr ⟨B.nd, by simp, fun x hx y hy => by rw [List.mem_singleton.mp hy]; exact fun z => na (z ▸ hx)⟩
  · rcases List.mem_append.mp m with m | m
    · exact B.dj b m
    · rw [List.mem_singleton.mp m]; exact nO
  · by_cases hk : k < S.length
    · rw [List.getElem?_append_left hk] at h1
      rw [List.getElem?_append_left (by rw [B.len]; exact hk)] at h2
      have r0 := B.cell k c' b h1 h2
      obtain ⟨o, h, q⟩ := r0.obj
      exact r0.mono tr.sub tr.pre (by rw [h]; exact e.keep b o h q.plain.2)
    · have h2l := (List.getElem?_eq_some_iff.mp h2).1
      have hk2 : k = S.length := by
        rw [List.length_append, B.len] at h2l
        simp at h2l
        omega
      subst hk2
      rw [List.getElem?_append_right (Nat.le_refl _), Nat.sub_self] at h1
      rw [← B.len, List.getElem?_append_right (Nat.le_refl _), Nat.sub_self] at h2
      cases h1
      cases h2
      exact r
end
def mapO {α β : Type} (f : α → Option β) : List α → Option (List β)
  | [] => some []
  | x :: xs => match f x, mapO f xs with
    | some y, some ys => some (y :: ys)
    | _, _ => none
def snapV : Nat → Store → Vl → Option PyData
  | _, _, .p d => some d
  | 0, _, _ => none
  | n + 1, S, .rf l => match S[l]? with
    | some (.lst xs) => (match mapO (snapV n S) xs with | some ds => some (.list ds) | none => none)
    | some (.ins C fs) => (match mapO (snapV n S) (fs.map (·.2)) with | some ds => some (obD C ((fs.map (·.1)).zip ds)) | none => none)
    | _ => none
  | n + 1, S, .tp xs => (match mapO (snapV n S) xs with | some ds => some (.tuple ds) | none => none)
def snapR (S : Store) (ρ : RhoO) : Rho := ρ.map fun x => match x with
  | some x => (match snapV 6 S x with | some d => some (.d d) | none => none)
  | none => none
def maskR (ρ : RhoO) : Rho := ρ.map fun x => match x with
  | some (.p d) => some (.d d)
  | _ => none
section
variable {K : PySem.W.Frag} {Tb O ι : List Addr} {H H' : Hp} {S : Store}
theorem mapO_len {α β : Type} {f : α → Option β} : ∀ {xs : List α} {ys : List β}, mapO f xs = some ys → ys.length = xs.length
  | [], ys, h => by cases h; rfl
  | x :: xs, ys, h => by
    unfold mapO at h
    cases e1 : f x with
    | none => rw [e1] at h; cases h
    | some y =>
      cases e2 : mapO f xs with
      | none => rw [e1, e2] at h; cases h
      | some zs => rw [e1, e2] at h; cases h; simp [mapO_len e2]
theorem snaps_rp {n : Nat} (ih : ∀ {v : V} {x : Vl} {d : PyData}, VlR K (hide (O ++ ι) H) ι v x → snapV n S x = some d → Rp K (hide O H) v d) : ∀ {vs : List V} {xs : List Vl} {ds : List PyData}, VlRs K (hide (O ++ ι) H) ι vs xs → mapO (snapV n S) xs = some ds → RpAll K (hide O H) vs ds
  | _, _, _, .nil, h => by cases h; exact .nil
  | _, _, _, .cons (x := x) (xs := xs) a b, h => by
    unfold mapO at h
    cases e1 : snapV n S x with
    | none => rw [e1] at h; cases h
    | some y =>
      cases e2 : mapO (snapV n S) xs with
      | none => rw [e1, e2] at h; cases h
      | some zs =>
        rw [e1, e2] at h
        cases h
        exact .cons (ih a e1) (snaps_rp ih b e2)
theorem less_hid : Sub (hide (O ++ ι) H) (hide O H) := Sub.less fun b m => List.mem_append_left _ m
theorem zip_fstO {α β : Type} : ∀ {as : List α} {bs : List β}, as.length = bs.length → (as.zip bs).map (·.1) = as ∧ (as.zip bs).map (·.2) = bs
  | [], [], _ => ⟨rfl, rfl⟩
  | [], _ :: _, h => by cases h
  | _ :: _, [], h => by cases h
  | a :: as, b :: bs, h => by
    obtain ⟨h1, h2⟩ := zip_fstO (as := as) (bs := bs) (by simpa using h)
    exact ⟨by rw [List.zip_cons_cons, List.map_cons, h1], by rw [List.zip_cons_cons, List.map_cons, h2]⟩
theorem BaseO.snap (B : BaseO K Tb O ι H S) : ∀ (n : Nat) {v : V} {x : Vl} {d : PyData}, VlR K (hide (O ++ ι) H) ι v x → snapV n S x = some d → Rp K (hide O H) v d
  | 0, _, .p _, _, r, h => by cases r with | p r => cases h; exact Rp.mono less_hid r
  | _ + 1, _, .p _, _, r, h => by cases r with | p r => cases h; exact Rp.mono less_hid r
  | 0, _, .rf _, _, _, h => by cases h
  | 0, _, .tp _, _, _, h => by cases h
  | n + 1, _, .tp xs, d, r, h => by
    cases r with
    | tp a z b =>
      unfold snapV at h
      split at h
      · rename_i ds e
        cases h
        exact .tup (less_hid.sqT a) (by rw [mapO_len e]; exact z) (snaps_rp (B.snap n) b e)
      · cases h
  | n + 1, _, .rf l, d, r, h => by
    cases r with
    | rf ha =>
      rename_i a
      have aO : a ∉ O := B.dj a (List.mem_of_getElem? ha)
      unfold snapV at h
      split at h
      · rename_i xs hc
        obtain ⟨vs, h1, z, h2⟩ := B.cell _ _ _ hc ha
        split at h
        · rename_i ds e
          cases h
          exact .lst (.of (by rw [hide_out aO]; exact h1)) (by rw [mapO_len e]; exact z) (snaps_rp (B.snap n) h2 e)
        · cases h
      · rename_i C fs hc
        obtain ⟨dx, gs, h1, h2, h3⟩ := B.cell _ _ _ hc ha
        split at h
        · rename_i ds e
          cases h
          obtain ⟨z1, z2⟩ := zip_fstO (as := fs.map (·.1)) (bs := ds) (by rw [mapO_len e, List.length_map, List.length_map])
          refine .ins (dx := dx) (fs := gs) (by rw [hide_out aO]; exact h1) ?_ ?_
          · rw [z1]; exact h2
          · rw [z2]; exact snaps_rp (B.snap n) h3 e
        · cases h
      · cases h
end
end PD
set_option Elab.async false
set_option linter.all false
set_option maxRecDepth 100000
set_option maxHeartbeats 1000000
namespace PD
open PySem PySem.Spec PyProof.Rows L2
inductive RO (α : Type) where
  | ok (a : α) (S : Store)
  | exc (e : Ex) (S : Store)
  | bad
def RO.bind {α β : Type} (x : RO α) (f : α → Store → RO β) : RO β := match x with
  | .ok a S => f a S
  | .exc e S => .exc e S
  | .bad => .bad
@[simp] theorem RO.bind_ok {α β : Type} (a : α) (S : Store) (f : α → Store → RO β) : (RO.ok a S).bind f = f a S := rfl
@[simp] theorem RO.bind_exc {α β : Type} (e : Ex) (S : Store) (f : α → Store → RO β) : (RO.exc e S : RO α).bind f = RO.exc e S := rfl
@[simp] theorem RO.bind_bad {α β : Type} (f : α → Store → RO β) : (RO.bad : RO α).bind f = RO.bad := rfl
structure StO (K : PySem.W.Frag) (Tb ι0 : List Addr) (H0 : Hp) (O ι : List Addr) (H : Hp) (σ : L2.St) (ρ : RhoO) (S : Store) : Prop where
  base : BaseO K Tb O ι H S
  tr : TrO ι0 H0 ι H
  len : σ.length = ρ.length
  slot : ∀ (i : Nat) (x : Vl), ρ[i]? = some (some x) → ∃ v, σ[i]? = some (some v) ∧ VlR K (hide (O ++ ι) H) ι v x
def PostO (K : PySem.W.Frag) (Tb O ι : List Addr) (H : Hp) {α β : Type} (Rl : List Addr → Hp → β → α → Prop) (W : Value → Option Addr → Hp → Prop) (x : RO α) (Q : β → Hp → Prop) : Prop := match x with
  | .ok d S' => ∀ v ι' H', TrO ι H ι' H' → BaseO K Tb O ι' H' S' → Rl ι' H' v d → Q v H'
  | .exc e S' => ∀ c dd ι' H', TrO ι H ι' H' → BaseO K Tb O ι' H' S' → ExR K (hide (O ++ ι') H') H' c dd e → W c dd H'
  | .bad => False
abbrev RlV (K : PySem.W.Frag) (O : List Addr) : List Addr → Hp → V → Vl → Prop := fun ι H v x => VlR K (hide (O ++ ι) H) ι v x
abbrev EO := RhoO → Store → RO Vl
abbrev EOL := RhoO → Store → RO (List Vl)
abbrev EOB := RhoO → Store → RO Bool
section
variable {K : PySem.W.Frag} {Tb ι0 O ι ι1 : List Addr} {H0 H H1 : Hp} {S S1 : Store} {σ : L2.St} {ρ : RhoO} {α α' β β' : Type} {Rl : List Addr → Hp → β → α → Prop} {Rl' : List Addr → Hp → β' → α' → Prop} {W : Value → Option Addr → Hp → Prop}
theorem StO.step (st : StO K Tb ι0 H0 O ι H σ ρ S) (t : TrO ι H ι1 H1) (B : BaseO K Tb O ι1 H1 S1) : StO K Tb ι0 H0 O ι1 H1 σ ρ S1 where
  base := B
  tr := st.tr.trans t
  len := st.len
  slot := fun i x h => by
    obtain ⟨v, h1, h2⟩ := st.slot i x h
    exact ⟨v, h1, h2.mono t.sub t.pre⟩
theorem PostO.step {x : RO α} {Q : β → Hp → Prop} (h : PostO K Tb O ι H Rl W x Q) (t : TrO ι H ι1 H1) : PostO K Tb O ι1 H1 Rl W x Q := by
  cases x with
  | ok d S' => exact fun v ι' H' t' B r => h v ι' H' (t.trans t') B r
  | exc e S' => exact fun c dd ι' H' t' B r => h c dd ι' H' (t.trans t') B r
  | bad => exact h
theorem PostO.then {x : RO α} {f : α → Store → RO α'} {Q : β → Hp → Prop} {Q' : β' → Hp → Prop} (h : PostO K Tb O ι H Rl' W (x.bind f) Q')
    (k : ∀ a S1 b ι1 H1, TrO ι H ι1 H1 → BaseO K Tb O ι1 H1 S1 → Rl ι1 H1 b a → PostO K Tb O ι1 H1 Rl' W (f a S1) Q' → Q b H1) : PostO K Tb O ι H Rl W x Q := by
  cases x with
  | ok d S' => exact fun v ι' H' t B r => k d S' v ι' H' t B r (PostO.step (show PostO K Tb O ι H Rl' W (f d S') Q' from h) t)
  | exc e S' => exact h
  | bad => exact h
theorem PostO.mono {x : RO α} {Q Q' : β → Hp → Prop} (h : PostO K Tb O ι H Rl W x Q) (k : ∀ b H1, Q b H1 → Q' b H1) : PostO K Tb O ι H Rl W x Q' := by
  cases x with
  | ok d S' => exact fun v ι' H' t B r => k _ _ (h v ι' H' t B r)
  | exc e S' => exact h
  | bad => exact h
end
section
variable (K : PySem.W.Frag) (Tb : List Addr) (W : WX)
def tO (f : EO) : TE := fun σ H Q => ∃ ι0 H0 O ι ρ S, StO K Tb ι0 H0 O ι H σ ρ S ∧ PostO K Tb O ι H (RlV K O) (fun c d H => W c d σ H) (f ρ S) Q
end
def oMask (f : Dn) : EO := fun ρ S => match f (maskR ρ) with
  | .ok d => .ok (.p d) S
  | .exc e => .exc e S
  | .bad => .bad
def oMaskB (f : DnB) : EOB := fun ρ S => match f (maskR ρ) with
  | .ok d => .ok d S
  | .exc e => .exc e S
  | .bad => .bad
section
variable {K : PySem.W.Frag} {Tb ι0 O ι ι1 : List Addr} {H0 H H1 : Hp} {S S1 : Store} {σ : L2.St} {ρ : RhoO} {W : WX}
theorem St0.plain {O : List Addr} {ρ : Rho} (al : Al O H) (tab : ∀ P ∈ Tb, TabC H P) (len : σ.length = ρ.length) (slot : ∀ (i : Nat) (s : Sl), ρ[i]? = some (some s) → ∃ v d, s = .d d ∧ σ[i]? = some (some v) ∧ Rp K (hide O H) v d) : St0 K Tb H O O H σ ρ where
  ext := Ext.refl H
  sub := fun _ h => h
  new := fun b h h2 => absurd h h2
  al := al
  tab := tab
  pln := fun b m n => absurd m n
  len := len
  slot := fun i s h => by
    obtain ⟨v, d, rfl, h1, h2⟩ := slot i s h
    exact ⟨v, h1, h2⟩
  inj := fun i j p s t hs _ h1 _ _ _ => by
    obtain ⟨v, d, rfl, _⟩ := slot i s h1
    exact hs.elim
theorem StO.mask (st : StO K Tb ι0 H0 O ι H σ ρ S) : St0 K Tb H (O ++ ι) (O ++ ι) H σ (maskR ρ) :=
  St0.plain st.base.alA st.base.tab (by unfold maskR; rw [List.length_map]; exact st.len) fun i s h => by
    unfold maskR at h
    rw [List.getElem?_map] at h
    cases e : ρ[i]? with
    | none => rw [e] at h; cases h
    | some x =>
      rw [e] at h
      cases x with
      | none => cases h
      | some x =>
        cases x with
        | p d =>
          cases h
          obtain ⟨v, h1, h2⟩ := st.slot i _ e
          cases h2 with
          | p r => exact ⟨v, d, rfl, h1, r⟩
        | rf l => cases h
        | tp xs => cases h
theorem StO.snap (st : StO K Tb ι0 H0 O ι H σ ρ S) : St0 K Tb H O O H σ (snapR S ρ) :=
  St0.plain st.base.al st.base.tab (by unfold snapR; rw [List.length_map]; exact st.len) fun i s h => by
    unfold snapR at h
    rw [List.getElem?_map] at h
    cases e : ρ[i]? with
    | none => rw [e] at h; cases h
    | some x =>
      rw [e] at h
      cases x with
      | none => cases h
      | some x =>
        cases e2 : snapV 6 S x with
        | none => have h : some (match snapV 6 S x with | some d => some (Sl.d d) | none => none) = some (some s) := h; rw [e2] at h; cases h
        | some d =>
          have h : some (match snapV 6 S x with | some d => some (Sl.d d) | none => none) = some (some s) := h
          rw [e2] at h
          cases h
          obtain ⟨v, h1, h2⟩ := st.slot i _ e
          exact ⟨v, d, rfl, h1, st.base.snap 6 h2 e2⟩
theorem hid_new {p : Addr} : Sub (hide (p :: (O ++ ι)) H) (hide (O ++ (ι ++ [p])) H) := Sub.less fun b m => by
  rw [List.mem_append, List.mem_append] at m
  rcases m with m | m | m
  · exact List.mem_cons_of_mem _ (List.mem_append_left _ m)
  · exact List.mem_cons_of_mem _ (List.mem_append_right _ m)
  · rw [List.mem_singleton.mp m]; exact List.mem_cons_self
end
section
variable {X : Cx} {Tb : List Addr} {W : WX} {e : Expr} {f : Dn} {fb : DnB}
theorem o_mask (h : PE X e (tD X.K Tb W f)) : PE X e (tO X.K Tb W (oMask f)) := h.by fun σ H Q ⟨ι0, H0, O, ι, ρ, S, st, q⟩ => ⟨H, O ++ ι, O ++ ι, maskR ρ, st.mask, by
  unfold oMask at q
  cases x : f (maskR ρ) with
  | ok d => rw [x] at q; exact fun v H' e r => q v ι H' (.ext e) (st.base.step e) (.p r)
  | exc y => rw [x] at q; exact fun c d H' e r => q c d ι H' (.ext e) (st.base.step e) r
  | bad => rw [x] at q; exact q⟩
end
def oVar (i : Nat) : EO := fun ρ S => match ρ[i]? with
  | some (some x) => .ok x S
  | _ => .bad
def fldV (C : Addr) (f : Str) (x : Vl) (S : Store) : Option Vl := match x with
  | .rf l => (match S[l]? with
    | some (.ins C' fs) => if C' = C then fs.lookup f else none
    | _ => none)
  | _ => none
def oFld (C : Addr) (f : Str) (g : EO) : EO := fun ρ S => (g ρ S).bind fun x S1 => match fldV C f x S1 with
  | some y => .ok y S1
  | none => .bad
def ixV (x y : Vl) (S : Store) : Option Vl := match x, y with
  | .rf l, .p (.int k) => (match S[l]? with
    | some (.lst xs) => atI xs k
    | _ => none)
  | .tp xs, .p (.int k) => atI xs k
  | _, _ => none
def oIxO (g h : EO) : EO := fun ρ S => (g ρ S).bind fun x S1 => (h ρ S1).bind fun y S2 => match ixV x y S2 with
  | some z => .ok z S2
  | none => .bad
def oNil : EOL := fun _ S => .ok [] S
def oCons (g : EO) (h : EOL) : EOL := fun ρ S => (g ρ S).bind fun x S1 => (h ρ S1).bind fun xs S2 => .ok (x :: xs) S2
section
variable {K : PySem.W.Frag} {Tb ι0 O ι ι1 : List Addr} {H0 H H1 : Hp} {S S1 : Store} {σ : L2.St} {ρ : RhoO} {G : Hp}
theorem atI_vl {vs : List V} {xs : List Vl} {i : Int} {x : Vl} (r : VlRs K G ι vs xs) (h : atI xs i = some x) : ∃ v, atI vs i = some v ∧ VlR K G ι v x := by
  unfold atI at h ⊢
  rw [r.length]
  cases e : ixN xs.length i with
  | none => rw [e] at h; cases h
  | some k => rw [e] at h; exact r.get h
end
section
variable {X : Cx} {Tb : List Addr} {W : WX} {e a b : Expr} {g h : EO} {gl : EOL} {es : List Expr} {pos : Pos} {x : Str}
theorem o_var (i : Nat) (hN : X.N[i]? = some x := by rfl) (hv : Vis X.env.scope x := by first | exact Or.inl rfl | exact Or.inr (Or.inl rfl) | exact Or.inr (Or.inr rfl)) (hd : (x == ("__debug__" : Str)) = false := by decide)
    (hcd : (x == ("__classdict__" : Str)) = false := by decide) : PE X (.Name x pos) (tO X.K Tb W (oVar i)) := (pv i hN hv hd hcd).by fun σ H Q ⟨ι0, H0, O, ι, ρ, S, st, q⟩ => by
  unfold oVar at q
  split at q
  · rename_i x e
    obtain ⟨v, h1, h2⟩ := st.slot i _ e
    exact ⟨v, h1, q v ι H (.refl _ _) st.base h2⟩
  · exact q.elim
theorem o_ix (ha : PE X a (tO X.K Tb W g)) (hb : PE X b (tO X.K Tb W h)) (hs : PlainIx b := by intro _ _; rfl) : PE X (.Subscript a b pos) (tO X.K Tb W (oIxO g h)) :=
  (pe_ix ix_seq ha hb hs).by fun σ H Q ⟨ι0, H0, O, ι, ρ, S, st, q⟩ => ⟨ι0, H0, O, ι, ρ, S, st, PostO.then q fun y S1 v ι1 H1 t B r k => ⟨ι0, H0, O, ι1, ρ, S1, st.step t B, PostO.then k fun y2 S2 v2 ι2 H2 t2 B2 r2 k2 => by
    have r := r.mono t2.sub t2.pre
    cases z : ixV y y2 S2 with
    | none => rw [z] at k2; exact k2.elim
    | some w =>
      rw [z] at k2
      unfold ixV at z
      split at z
      · rename_i l kk
        cases r2 with
        | p r2 =>
          cases r2
          cases r with
          | rf hl =>
            split at z
            · rename_i xs hc
              obtain ⟨vs, h1, _, h2⟩ := B2.cell _ _ _ hc hl
              obtain ⟨u, h3, h4⟩ := atI_vl h2 z
              exact .inl ⟨_, vs, _, u, rfl, rfl, .of h1, h3, k2 u ι2 H2 (.refl _ _) B2 h4⟩
            · cases z
      · rename_i xs kk
        cases r2 with
        | p r2 =>
          cases r2
          cases r with
          | tp h1 _ h2 =>
            obtain ⟨u, h3, h4⟩ := atI_vl h2 z
            exact .inr (.inl ⟨_, _, _, u, rfl, rfl, Sub.unhide.sqT h1, h3, k2 u ι2 H2 (.refl _ _) B2 h4⟩)
      · cases z⟩⟩
end
end PD
set_option Elab.async false
set_option linter.all false
set_option maxRecDepth 100000
set_option maxHeartbeats 1000000
namespace PD
open PySem PySem.Spec PyProof.Rows L2
abbrev MO := List Vl → Store → RO Vl
def spO (K : PySem.W.Frag) (Tb : List Addr) (m : MO) : Sp := fun vs H Q E => ∃ O ι S xs, BaseO K Tb O ι H S ∧ VlRs K (hide (O ++ ι) H) ι vs xs ∧ PostO K Tb O ι H (RlV K O) E (m xs S) Q
def oArg (m : MO) (g : EOL) : EO := fun ρ S => (g ρ S).bind m
def asFs : List (PyData × PyData) → Option (List (Str × PyData))
  | [] => some []
  | (.str n, v) :: l => match asFs l with
    | some r => some ((n, v) :: r)
    | none => none
  | _ => none
def asOb : PyData → Option (Addr × List (Str × PyData))
  | .dict ((.none, .int c) :: l) => (match asFs l with
    | some fs => some (c.toNat, fs)
    | none => none)
  | _ => none
theorem asFs_map : ∀ fs : List (Str × PyData), asFs (fs.map fun x => (PyData.str x.1, x.2)) = some fs
  | [] => rfl
  | x :: fs => by rw [List.map_cons, asFs, asFs_map fs]
@[simp] theorem asOb_obD (C : Addr) (fs : List (Str × PyData)) : asOb (obD C fs) = some (C, fs) := by
  show (match asFs (fs.map fun x => (PyData.str x.1, x.2)) with | some fs => some (((C : Int)).toNat, fs) | none => none) = _
  rw [asFs_map]
  rfl
end PD
set_option Elab.async false
set_option linter.all false
set_option maxRecDepth 100000
set_option maxHeartbeats 1000000
namespace PD
open PySem PySem.Spec PyProof.Rows L2
mutual
def Tg.setO : Tg → Vl → RhoO → Option RhoO
  | .nm i, x, ρ => some (ρ.set i (some x))
  | .tp ts, x, ρ => match x with
    | .p (.tuple ds) => Tg.setsO ts (ds.map .p) ρ
    | .tp xs => Tg.setsO ts xs ρ
    | _ => none
def Tg.setsO : List Tg → List Vl → RhoO → Option RhoO
  | [], [], ρ => some ρ
  | t :: ts, d :: ds, ρ => (Tg.setO t d ρ).bind fun ρ' => Tg.setsO ts ds ρ'
  | _, _, _ => none
end
theorem setsO_len : ∀ (ts : List Tg) (xs : List Vl) (ρ ρ' : RhoO), Tg.setsO ts xs ρ = some ρ' → xs.length = ts.length
  | [], [], _, _, _ => rfl
  | [], _ :: _, _, _, h => by unfold Tg.setsO at h; cases h
  | _ :: _, [], _, _, h => by unfold Tg.setsO at h; cases h
  | t :: ts, x :: xs, ρ, ρ', h => by
    unfold Tg.setsO at h
    cases e : Tg.setO t x ρ with
    | none => rw [e] at h; cases h
    | some ρ1 => rw [e] at h; rw [List.length_cons, List.length_cons, setsO_len ts xs ρ1 ρ' h]
def tGO (K : PySem.W.Frag) (Tb : List Addr) (t : Tg) : TG := fun v σ H Q => ∃ ι0 H0 O ι ρ S ρ' x, StO K Tb ι0 H0 O ι H σ ρ S ∧ VlR K (hide (O ++ ι) H) ι v x ∧ t.setO x ρ = some ρ' ∧ ∀ σ', StO K Tb ι0 H0 O ι H σ' ρ' S → Q σ' H
def tGsO (K : PySem.W.Frag) (Tb : List Addr) (ts : List Tg) : TGs := fun vs σ H Q => ∃ ι0 H0 O ι ρ S ρ' xs, StO K Tb ι0 H0 O ι H σ ρ S ∧ VlRs K (hide (O ++ ι) H) ι vs xs ∧ Tg.setsO ts xs ρ = some ρ' ∧ ∀ σ', StO K Tb ι0 H0 O ι H σ' ρ' S → Q σ' H
theorem StO.set {K : PySem.W.Frag} {Tb ι0 O ι : List Addr} {H0 H : Hp} {S : Store} {σ : L2.St} {ρ : RhoO} {i : Nat} {v : V} {x : Vl} (st : StO K Tb ι0 H0 O ι H σ ρ S) (r : VlR K (hide (O ++ ι) H) ι v x) : StO K Tb ι0 H0 O ι H (σ.set i (some v)) (ρ.set i (some x)) S where
  base := st.base
  tr := st.tr
  len := by rw [List.length_set, List.length_set]; exact st.len
  slot := fun j y h => by
    by_cases e : i = j
    · subst e
      by_cases il : i < ρ.length
      · rw [List.getElem?_set_self il] at h
        cases h
        exact ⟨v, List.getElem?_set_self (by rw [st.len]; exact il), r⟩
      · rw [List.getElem?_eq_none (by rw [List.length_set]; omega)] at h; cases h
    · rw [List.getElem?_set_ne e] at h ⊢
      exact st.slot j y h
section
variable {X : Cx} {Tb : List Addr} {W : WX} {x : Str}
theorem og_nm {i : Nat} {pos : Pos} (hN : X.N.Nodup) (hi : X.N[i]? = some x) (hx : Loc X.env.scope x) (hf : X.fn x = true ∨ X.env.scope.names.lookup x = some .local := by first | exact .inl rfl | exact .inr rfl | assumption) : PG X (.Name x pos) (tGO X.K Tb (.nm i)) :=
  (pg_name hN hi hx hf).by fun v σ H Q ⟨ι0, H0, O, ι, ρ, S, ρ', y, st, r, e, q⟩ => by
    unfold Tg.setO at e
    cases e
    exact q _ (st.set r)
theorem ogs_nil : PGs X [] (tGsO X.K Tb []) := pgs_nil.by fun v σ H Q ⟨ι0, H0, O, ι, ρ, S, ρ', xs, st, r, e, q⟩ => by
  cases r with
  | nil =>
    unfold Tg.setsO at e
    cases e
    exact ⟨rfl, q _ st⟩
  | cons _ _ => unfold Tg.setsO at e; cases e
theorem ogs_cons {e : Expr} {es : List Expr} {t : Tg} {ts : List Tg} (h1 : PG X e (tGO X.K Tb t)) (h2 : PGs X es (tGsO X.K Tb ts))
    (hs : (assignEach (e :: es) X.env).map (·.2) = assign e X.env :: (assignEach es X.env).map (·.2) := by rfl) : PGs X (e :: es) (tGsO X.K Tb (t :: ts)) := (pgs_cons h1 h2 hs).by fun v σ H Q ⟨ι0, H0, O, ι, ρ, S, ρ', xs, st, r, e, q⟩ => by
  cases r with
  | nil => unfold Tg.setsO at e; cases e
  | @cons v vs d ds r1 r2 =>
    unfold Tg.setsO at e
    cases e1 : Tg.setO t d ρ with
    | none => rw [e1] at e; cases e
    | some ρ1 =>
      rw [e1] at e
      exact ⟨v, vs, rfl, ι0, H0, O, ι, ρ, S, ρ1, d, st, r1, e1, fun σ' st' => ⟨ι0, H0, O, ι, ρ1, S, ρ', ds, st', r2, e, q⟩⟩
theorem og_tup {es : List Expr} {k : Nat} {ts : List Tg} {pos : Pos} {n : Nat} (hc : X.calm = true) (h : PGs X es (tGsO X.K Tb ts)) (hn : (assignEach es X.env).length = n := by rfl) (hst : (assignEach es X.env).findIdx? (·.1) = none := by rfl) (hl : ts.length = n := by rfl) :
    PG X (.Tuple es k pos) (tGO X.K Tb (.tp ts)) := (pg_tup hc h hn hst).by fun v σ H Q ⟨ι0, H0, O, ι, ρ, S, ρ', x, st, r, e, q⟩ => by
  unfold Tg.setO at e
  split at e
  · rename_i ds
    cases r with
    | p r =>
      cases r with
      | tup h1 z1 a1 =>
        have hl2 := setsO_len ts _ ρ ρ' e
        rw [List.length_map] at hl2
        exact ⟨_, _, rfl, Sub.unhide.sqT h1, by rw [a1.length, hl2]; exact hl, ι0, H0, O, ι, ρ, S, ρ', _, st, VlRs.ofRp a1, e, q⟩
  · rename_i xs
    cases r with
    | tp h1 z1 a1 =>
      have hl2 := setsO_len ts _ ρ ρ' e
      exact ⟨_, _, rfl, Sub.unhide.sqT h1, by rw [a1.length, hl2]; exact hl, ι0, H0, O, ι, ρ, S, ρ', _, st, a1, e, q⟩
  · cases e
end
end PD
set_option Elab.async false
set_option linter.all false
set_option maxRecDepth 100000
set_option maxHeartbeats 1000000
namespace PD
open PySem PySem.Spec PyProof.Rows L2
inductive OutO where
  | nx (ρ : RhoO) (S : Store)
  | rt (d : Vl) (S : Store)
  | bk (ρ : RhoO) (S : Store)
  | ct (ρ : RhoO) (S : Store)
  | exc (e : Ex) (ρ : RhoO) (S : Store)
  | bad
abbrev SO := RhoO → Store → OutO
def PostSO (K : PySem.W.Frag) (Tb : List Addr) (W : WX) (ι0 : List Addr) (H0 : Hp) (O : List Addr) (out : OutO) (D : Ends) : Prop := match out with
  | .nx ρ S => ∀ ι σ H, StO K Tb ι0 H0 O ι H σ ρ S → D.nx σ H
  | .rt d S => ∀ v ι H, TrO ι0 H0 ι H → BaseO K Tb O ι H S → VlR K (hide (O ++ ι) H) ι v d → D.rt v H
  | .bk ρ S => ∀ ι σ H, StO K Tb ι0 H0 O ι H σ ρ S → D.bk σ H
  | .ct ρ S => ∀ ι σ H, StO K Tb ι0 H0 O ι H σ ρ S → D.ct σ H
  | .exc e ρ S => ∀ ι σ H c dd, StO K Tb ι0 H0 O ι H σ ρ S → ExR K (hide (O ++ ι) H) H c dd e → W c dd σ H
  | .bad => False
def tSO (K : PySem.W.Frag) (Tb : List Addr) (W : WX) (g : SO) : TS := fun D σ H => ∃ ι0 H0 O ι ρ S, StO K Tb ι0 H0 O ι H σ ρ S ∧ PostSO K Tb W ι0 H0 O (g ρ S) D
def oRO {α : Type} (x : RO α) (ρ : RhoO) (k : α → Store → OutO) : OutO := match x with
  | .ok a S => k a S
  | .exc e S => .exc e ρ S
  | .bad => .bad
@[simp] theorem oRO_ok {α : Type} (a : α) (S : Store) (ρ : RhoO) (k : α → Store → OutO) : oRO (.ok a S) ρ k = k a S := rfl
def sSkip : SO := .nx
def sSeq (g h : SO) : SO := fun ρ S => match g ρ S with
  | .nx ρ' S' => h ρ' S'
  | o => o
def sSet (f : EO) (t : Tg) : SO := fun ρ S => oRO (f ρ S) ρ fun x S1 => match t.setO x ρ with
  | some ρ' => .nx ρ' S1
  | none => .bad
def sExpr (f : EO) : SO := fun ρ S => oRO (f ρ S) ρ fun _ S1 => .nx ρ S1
def sRet (f : EO) : SO := fun ρ S => oRO (f ρ S) ρ .rt
def sRetN : SO := fun _ S => .rt (.p .none) S
def sIf (c : EOB) (g h : SO) : SO := fun ρ S => oRO (c ρ S) ρ fun b S1 => if b = true then g ρ S1 else h ρ S1
abbrev EOI := RhoO → Store → RO (List PyData)
def sForGo (t : Tg) (g : SO) : List PyData → RhoO → Store → OutO
  | [], ρ, S => .nx ρ S
  | d :: ds, ρ, S => match t.setO (.p d) ρ with
    | some ρ1 => match g ρ1 S with
      | .nx ρ2 S2 => sForGo t g ds ρ2 S2
      | .ct ρ2 S2 => sForGo t g ds ρ2 S2
      | .bk ρ2 S2 => .nx ρ2 S2
      | o => o
    | none => .bad
def sFor (fi : EOI) (t : Tg) (g : SO) : SO := fun ρ S => oRO (fi ρ S) ρ fun ds S1 => sForGo t g ds ρ S1
def oMaskI (f : DnL) : EOI := fun ρ S => match f (maskR ρ) with
  | .ok d => .ok d S
  | .exc e => .exc e S
  | .bad => .bad
def tIO (K : PySem.W.Frag) (Tb : List Addr) (W : WX) (f : EOI) : TI := fun σ H R => ∃ ι0 H0 O ι ρ S, StO K Tb ι0 H0 O ι H σ ρ S ∧ PostO K Tb O ι H (fun ι' H' J ds => ItD K (hide (O ++ ι') H') J ds) (fun c d H => W c d σ H) (f ρ S) R
section
variable {X : Cx} {Tb : List Addr} {W : WX} {tg e : Expr} {f : DnL} {g : EO} {p pos : Pos}
theorem oi_mask (h : PI X tg e (tI X.K Tb W f)) : PI X tg e (tIO X.K Tb W (oMaskI f)) := h.by fun σ H R ⟨ι0, H0, O, ι, ρ, S, st, q⟩ => ⟨H, O ++ ι, O ++ ι, maskR ρ, st.mask, by
  unfold oMaskI at q
  cases x : f (maskR ρ) with
  | ok d => rw [x] at q; exact fun v H' e r => q v ι H' (.ext e) (st.base.step e) r
  | exc y => rw [x] at q; exact fun c d H' e r => q c d ι H' (.ext e) (st.base.step e) r
  | bad => rw [x] at q; exact q⟩
end
section
variable {X : Cx} {Tb : List Addr} {W : WX} {e c : Expr} {f : EO} {fb : EOB} {g h : SO} {pos : Pos} {st : Stmt} {sts : List Stmt}
theorem oRO_post {K : PySem.W.Frag} {ι0 O ι : List Addr} {H0 H : Hp} {σ : L2.St} {ρ : RhoO} {S : Store} {α β : Type} {x : RO α} {k : α → Store → OutO} {Rl : List Addr → Hp → β → α → Prop} {D : Ends} {Q : β → Hp → Prop} (st : StO K Tb ι0 H0 O ι H σ ρ S) (h : PostSO K Tb W ι0 H0 O (oRO x ρ k) D)
    (q : ∀ a S1 b ι1 H1, TrO ι H ι1 H1 → BaseO K Tb O ι1 H1 S1 → Rl ι1 H1 b a → PostSO K Tb W ι0 H0 O (k a S1) D → Q b H1) : PostO K Tb O ι H Rl (fun c d H => W c d σ H) x Q := by
  cases x with
  | ok a S1 => exact fun v ι' H' t B r => q a S1 v ι' H' t B r h
  | exc e S1 => exact fun c dd ι' H' t B r => h ι' σ H' c dd (st.step t B) r
  | bad => exact h
theorem os_cons (h1 : PS X st (tSO X.K Tb W g)) (h2 : PSs X sts (tSO X.K Tb W h)) : PSs X (st :: sts) (tSO X.K Tb W (sSeq g h)) := (pss_cons h1 h2).by fun D σ H ⟨ι0, H0, O, ι, ρ, S, st, q⟩ => ⟨ι0, H0, O, ι, ρ, S, st, by
  unfold sSeq at q
  cases e : g ρ S with
  | nx ρ' S' => rw [e] at q; exact fun ι' σ' H' st' => ⟨ι0, H0, O, ι', ρ', S', st', q⟩
  | rt d S' => rw [e] at q; exact q
  | bk ρ' S' => rw [e] at q; exact q
  | ct ρ' S' => rw [e] at q; exact q
  | exc x ρ' S' => rw [e] at q; exact q
  | bad => rw [e] at q; exact q⟩
theorem os_one (h1 : PS X st (tSO X.K Tb W g)) : PSs X [st] (tSO X.K Tb W g) := pss_one h1
theorem os_ret (he : PE X e (tO X.K Tb W f)) : PS X (.Return (some e) pos) (tSO X.K Tb W (sRet f)) := (ps_ret he).by fun D σ H ⟨ι0, H0, O, ι, ρ, S, st, h⟩ => ⟨ι0, H0, O, ι, ρ, S, st, oRO_post st h fun d S1 v ι1 H1 t B r k => k v ι1 H1 (st.tr.trans t) B r⟩
theorem os_expr (he : PE X e (tO X.K Tb W f)) (hs : swapsWith e none pos.line X.env = pure false := by rfl) : PS X (.Expr e pos) (tSO X.K Tb W (sExpr f)) := (ps_expr he hs).by fun D σ H ⟨ι0, H0, O, ι, ρ, S, st, h⟩ => ⟨ι0, H0, O, ι, ρ, S, st, oRO_post st h fun d S1 v ι1 H1 t B r k => k ι1 σ H1 (st.step t B)⟩
theorem os_set {i : Nat} {x : Str} {pos' : Pos} (hN : X.N.Nodup) (hi : X.N[i]? = some x) (hx : Loc X.env.scope x) (he : PE X e (tO X.K Tb W f)) (hs : swapsWith e (some (.Name x pos')) pos.line X.env = pure false := by rfl)
    (hf : X.fn x = true ∨ X.env.scope.names.lookup x = some .local := by first | exact .inl rfl | exact .inr rfl | assumption) : PS X (.Assign [.Name x pos'] e pos) (tSO X.K Tb W (sSet f (.nm i))) := (ps_set hN hi hx he hs hf).by fun D σ H ⟨ι0, H0, O, ι, ρ, S, st, h⟩ => ⟨ι0, H0, O, ι, ρ, S, st, oRO_post st h fun d S1 v ι1 H1 t B r k => by
  unfold Tg.setO at k
  exact k ι1 _ H1 ((st.step t B).set r)⟩
theorem os_for {tg iter : Expr} {body : List Stmt} {fi : EOI} {t : Tg} (hp : PassesOwn (model X.prog X.w) X.A X.env X.xe) (hc : X.calm = true) (hi : PI X tg iter (tIO X.K Tb W fi)) (hg : PG X tg (tGO X.K Tb t)) (hb : PSs X body (tSO X.K Tb W g))
    (hs : ∀ x, foldedSetIterable iter X.env x = pure x := by intro _; rfl) : PS X (.For tg iter body [] pos) (tSO X.K Tb W (sFor fi t g)) := (ps_for hp hc hi hg hb hs).by fun D σ H ⟨ι0, H0, O, ι, ρ, S, st, h⟩ => ⟨ι0, H0, O, ι, ρ, S, st, oRO_post st h fun ds S1 J ι1 H1 tr B it k => by
  have st1 := st.step tr B
  refine ⟨fun i m σ' H' => i ≤ ds.length ∧ m = ds.length - i ∧ ∃ ι' ρ' S', TrO ι1 H1 ι' H' ∧ StO X.K Tb ι0 H0 O ι' H' σ' ρ' S' ∧ PostSO X.K Tb W ι0 H0 O (sForGo t g (ds.drop i) ρ' S') D,
    ⟨ds.length, Nat.zero_le _, by simp, ι1, ρ, S1, .refl _ _, st1, k⟩, ?_⟩
  rintro i m σ' H' ⟨hi, rfl, ι', ρ', S', tr', s1, k2⟩
  have eH : Ext (hide (O ++ ι1) H1) H' := tr'.hid
  have nG : ∀ b ∈ O ++ ι', hide (O ++ ι1) H1 b = none := fun b hb => by
    by_cases h1 : b ∈ O ++ ι1
    · exact hide_in h1
    · rw [List.mem_append, not_or] at h1
      rcases List.mem_append.mp hb with hb | hb
      · exact absurd hb h1.1
      · exact hide_none (tr'.new b hb h1.2)
  by_cases hlt : i < ds.length
  · refine .inr ⟨it.go i H' eH hlt, fun σ2 H2 => i + 1 ≤ ds.length ∧ ∃ ι2 ρ2 S2, TrO ι1 H1 ι2 H2 ∧ StO X.K Tb ι0 H0 O ι2 H2 σ2 ρ2 S2 ∧ PostSO X.K Tb W ι0 H0 O (sForGo t g (ds.drop (i + 1)) ρ2 S2) D,
      fun σ2 H2 q => ⟨ds.length - (i + 1), by omega, q.1, rfl, q.2⟩, fun x H2 y => ?_⟩
    obtain ⟨e2, d, hd, rx⟩ := it.yld i H' (O ++ ι') x H2 eH nG s1.base.alA hlt y
    have hdr : ds.drop i = d :: ds.drop (i + 1) := by
      obtain ⟨hl, hd'⟩ := List.getElem?_eq_some_iff.mp hd
      rw [List.drop_eq_getElem_cons hl, hd']
    rw [hdr] at k2
    unfold sForGo at k2
    cases et : t.setO (.p d) ρ' with
    | none => rw [et] at k2; exact k2.elim
    | some ρ1 =>
      rw [et] at k2
      have s2 := s1.step (.ext e2) (s1.base.step e2)
      -- the body begins a stretch of its own: from here
      have s2' : StO X.K Tb ι' H2 O ι' H2 σ' ρ' S' := ⟨s2.base, .refl _ _, s2.len, s2.slot⟩
      have tr2 : TrO ι1 H1 ι' H2 := tr'.trans (.ext e2)
      refine ⟨ι', H2, O, ι', ρ', S', ρ1, .p d, s2', .p rx, et, fun σ3 s3 => ⟨ι', H2, O, ι', ρ1, S', s3, ?_⟩⟩
      have back : ∀ {ι4 : List Addr} {σ4 : L2.St} {H4 : Hp} {ρ4 : RhoO} {S4 : Store}, StO X.K Tb ι' H2 O ι4 H4 σ4 ρ4 S4 → StO X.K Tb ι0 H0 O ι4 H4 σ4 ρ4 S4 := fun s => ⟨s.base, s2.tr.trans s.tr, s.len, s.slot⟩
      cases eg : g ρ1 S' with
      | nx ρ2 S2 => simp only [eg] at k2; exact fun ι4 σ4 H4 s4 => ⟨hlt, ι4, ρ2, S2, tr2.trans s4.tr, back s4, k2⟩
      | ct ρ2 S2 => simp only [eg] at k2; exact fun ι4 σ4 H4 s4 => ⟨hlt, ι4, ρ2, S2, tr2.trans s4.tr, back s4, k2⟩
      | bk ρ2 S2 => simp only [eg] at k2; exact fun ι4 σ4 H4 s4 => k2 ι4 σ4 H4 (back s4)
      | rt d S2 => simp only [eg] at k2; exact fun v ι4 H4 t4 B4 r4 => k2 v ι4 H4 (s2.tr.trans t4) B4 r4
      | exc x ρ2 S2 => simp only [eg] at k2; exact fun ι4 σ4 H4 c dd s4 r4 => k2 ι4 σ4 H4 c dd (back s4) r4
      | bad => simp only [eg] at k2; exact k2
  · have ei : i = ds.length := by omega
    subst ei
    rw [List.drop_length] at k2
    exact .inl ⟨it.stop H' eH, k2 ι' σ' H' s1⟩⟩
end
end PD
set_option Elab.async false
set_option linter.all false
set_option maxRecDepth 100000
set_option maxHeartbeats 1000000
namespace PD
open PySem PySem.Spec PyProof.Rows L2
/-- the list at x -/
def lstV (x : Vl) (S : Store) : Option (Nat × List Vl) := match x with
  | .rf l => (match S[l]? with
    | some (.lst xs) => some (l, xs)
    | _ => none)
  | _ => none
/-- the items of a list -/
def listV (x : Vl) (S : Store) : Option (List Vl) := match x with
  | .p (.list ds) => some (ds.map .p)
  | .rf l => (match S[l]? with
    | some (.lst xs) => some xs
    | _ => none)
  | _ => none
def oExt (g h : EO) : EO := fun ρ S => (g ρ S).bind fun x S1 => match lstV x S1 with
  | none => .bad
  | some _ => (h ρ S1).bind fun y S2 => match lstV x S2, listV y S2 with
    | some (l, xs), some ys => if xs.length + ys.length ≤ sizeLine then .ok (.p .none) (S2.set l (.lst (xs ++ ys))) else .bad
    | _, _ => .bad
section
variable {K : PySem.W.Frag} {Tb O ι : List Addr} {H : Hp} {S : Store} {G : Hp}
theorem lstV_read (B : BaseO K Tb O ι H S) {x : Vl} {v : V} {l : Nat} {xs : List Vl} (r : VlR K (hide (O ++ ι) H) ι v x) (h : lstV x S = some (l, xs)) : ∃ a vs, v = .ref a ∧ x = .rf l ∧ ι[l]? = some a ∧ H a = some (.lst vs) ∧ xs.length ≤ sizeLine ∧ VlRs K (hide (O ++ ι) H) ι vs xs := by
  unfold lstV at h
  split at h
  · rename_i l'
    cases r with
    | rf ha =>
      split at h
      · rename_i xs' hc
        cases h
        obtain ⟨vs, h1, h2, h3⟩ := B.cell _ _ _ hc ha
        exact ⟨_, vs, rfl, rfl, ha, h1, h2, h3⟩
      · cases h
  · cases h
theorem lstW (B : BaseO K Tb O ι H S) {a : Addr} {l : Nat} {vs : List V} {xs : List Vl} (ha : ι[l]? = some a) (z : xs.length ≤ sizeLine) (r : VlRs K (hide (O ++ ι) H) ι vs xs) : BaseO K Tb O ι (upd H a (.lst vs)) (S.set l (.lst xs)) ∧ TrO ι H ι (upd H a (.lst vs)) :=
  B.put ha (show CellR K (hide (O ++ ι) H) (upd H a (.lst vs)) ι a (.lst xs) from ⟨vs, upd_same, z, r⟩)
end
section
variable {X : Cx} {Tb : List Addr} {W : WX} {o e ei value : Expr} {g h ge gi : EO} {C : Addr} {f : Str} {fs : List Str} {pos pos' apos cpos spos : Pos}
theorem listV_read {K : PySem.W.Frag} {O ι : List Addr} {H : Hp} {S : Store} (B : BaseO K Tb O ι H S) {y : Vl} {w : V} {ys : List Vl} (r : VlR K (hide (O ++ ι) H) ι w y) (hy : listV y S = some ys) : ∃ b ws, w = .ref b ∧ SqL K H b ws ∧ VlRs K (hide (O ++ ι) H) ι ws ys := by
  unfold listV at hy
  split at hy
  · rename_i ds
    cases hy
    cases r with
    | p r =>
      cases r with
      | lst h1 z a => exact ⟨_, _, rfl, Sub.unhide.sqL h1, VlRs.ofRp a⟩
  · rename_i l
    cases r with
    | rf ha =>
      split at hy
      · rename_i xs hc
        cases hy
        obtain ⟨vs, h1, _, h3⟩ := B.cell _ _ _ hc ha
        exact ⟨_, vs, rfl, .of h1, h3⟩
      · cases hy
  · cases hy
theorem o_extend (ho : PE X o (tO X.K Tb W g)) (ha : PE X e (tO X.K Tb W h))
    (hse : starEach [e] X.env = (false, eval e X.env) :: starEach [] X.env := by rfl) (hbase : attributeBase o "extend" X.env (eval o X.env) = eval o X.env := by rfl)
    (hfew : ((backTo cpos (starEach [e] X.env)).all (fun x => !x.1) && (backToKw cpos (keywordEach [] X.env)).all (fun x => x.1.isSome)
      && decide (([e] : List Expr).length + ([] : List Keyword).length + (if ([] : List Keyword).isEmpty then 0 else 1) < 30)) = true := by rfl)
    (hline : (apos.endLine == cpos.line) = true := by rfl) (hplain : (backTo cpos (starEach [] X.env)).any (·.1) = false := by rfl) :
    PE X (.Call (.Attribute o "extend" apos) [e] [] cpos) (tO X.K Tb W (oExt g h)) :=
  (pe_bm PySem.F.plainAttrs_list PySem.F.slot_list_extend PySem.F.type_list_extend mt_extL ho (pa_cons ha pa_nil hse) hbase hfew hline hse hplain).by fun σ H Q ⟨ι0, H0, O, ι, ρ, S, st, q⟩ => ⟨ι0, H0, O, ι, ρ, S, st, PostO.then q fun x S1 v ι1 H1 t B r k => by
    split at k
    · exact k.elim
    · rename_i lx hx
      obtain ⟨l, xs⟩ := lx
      obtain ⟨a, vs, rfl, rfl, hl, h1, h2, h3⟩ := lstV_read B r hx
      refine ⟨.inl ⟨rfl, vs, .of h1⟩, ι0, H0, O, ι1, ρ, S1, st.step t B, PostO.then k fun y S2 w ι2 H2 t2 B2 r2 k2 => ?_⟩
      split at k2
      · rename_i l2 xs2 ys hx2 hy
        split at k2
        · rename_i hz
          obtain ⟨a2, vs2, e1, e2, g1, g2, g3, g4⟩ := lstV_read B2 (r.mono t2.sub t2.pre) hx2
          cases e1
          obtain ⟨b, ws, rfl, q1, q2⟩ := listV_read B2 r2 hy
          obtain ⟨B3, t3⟩ := lstW B2 (vs := vs2 ++ ws) (xs := xs2 ++ ys) g1 (by rw [List.length_append]; exact hz) (g4.append q2)
          exact ⟨a, b, vs2, ws, rfl, rfl, g2, q1, by rw [g4.length, q2.length]; exact hz, k2 .non ι2 _ t3 B3 (.p .non)⟩
        · exact k2.elim
      · exact k2.elim⟩
theorem VlRs.dropLast {K : PySem.W.Frag} {G : Hp} {ι : List Addr} : ∀ {vs : List V} {xs : List Vl}, VlRs K G ι vs xs → VlRs K G ι vs.dropLast xs.dropLast
  | _, _, .nil => .nil
  | _, _, .cons r .nil => .nil
  | _, _, .cons r (.cons r2 t) => .cons r (VlRs.dropLast (.cons r2 t))
end
def startO (n : Nat) (xs : List Vl) : RhoO := xs.map some ++ List.replicate (n - xs.length) none
def endO : OutO → RO Vl
  | .nx _ S => .ok (.p .none) S
  | .rt d S => .ok d S
  | .exc e _ S => .exc e S
  | _ => .bad
def runO (n p : Nat) (g : SO) : MO := fun xs S => if xs.length = p then endO (g (startO n xs) S) else .bad
/-- a def whose arguments and answers are data: what it made is data behind it -/
def pureO (m : MO) : List PyData → R PyData := fun ds => match m (ds.map .p) [] with
  | .ok x S => (match snapV 6 S x with | some d => .ok d | none => .bad)
  | .exc e _ => .exc e
  | .bad => .bad
section
variable {P : Program} {w : World} {K : PySem.W.Frag} {mg : Str → Option Value} {base : Heap} {Tb : List Addr}
theorem StO.init {O ι : List Addr} {H : Hp} {S : Store} {vs : List V} {xs : List Vl} (n : Nat) (B : BaseO K Tb O ι H S) (r : VlRs K (hide (O ++ ι) H) ι vs xs) : StO K Tb ι H O ι H (vs.map some ++ List.replicate n none) (xs.map some ++ List.replicate n none) S where
  base := B
  tr := .refl _ _
  len := by simp [r.length]
  slot := fun i x h => by
    have hi : i < xs.length := by
      by_cases hi : i < xs.length
      · exact hi
      · rw [List.getElem?_append_right (by simpa using hi), List.getElem?_replicate] at h
        split at h <;> cases h
    rw [List.getElem?_append_left (by simpa using hi), List.getElem?_map] at h
    cases e : xs[i]? with
    | none => rw [e] at h; cases h
    | some d =>
      rw [e] at h
      cases h
      obtain ⟨v, h1, h2⟩ := r.get e
      refine ⟨v, ?_, h2⟩
      have hl : i < vs.length := by rw [r.length]; exact hi
      rw [List.getElem?_append_left (by simpa using hl), List.getElem?_map, h1]
      rfl
theorem runO_post {n p : Nat} {g : SO} {O ι : List Addr} {H : Hp} {S : Store} {vs : List V} {xs : List Vl} {Q : VK} {E : XK} (B : BaseO K Tb O ι H S) (r : VlRs K (hide (O ++ ι) H) ι vs xs) (h : PostO K Tb O ι H (RlV K O) E (runO n p g xs S) Q) :
    xs.length = p ∧ PostSO K Tb (WE E) ι H O (g (startO n xs) S) ⟨fun σ H' => Q .non H', fun v H' => Q v H', fun _ _ => False, fun _ _ => False⟩ := by
  unfold runO at h
  split at h
  · rename_i e
    refine ⟨e, ?_⟩
    cases q : g (startO n xs) S with
    | nx ρ S' => rw [q] at h; exact fun ι' σ' H' st' => h .non ι' H' st'.tr st'.base (.p .non)
    | rt d S' => rw [q] at h; exact fun v ι' H' t B' r' => h v ι' H' t B' r'
    | exc x ρ S' => rw [q] at h; exact fun ι' σ' H' c d st' ex => h c d ι' H' st'.tr st'.base ex
    | bk ρ S' => rw [q] at h; exact h.elim
    | ct ρ S' => rw [q] at h; exact h.elim
    | bad => rw [q] at h; exact h.elim
  · exact h.elim
theorem fn_okO {x qual : Str} {st : Stmt} {f : Addr} {fd : FuncData} {N ps : List Str} {k : Nat} {g : SO} (F : Fun K x qual st f fd) (S : FnScope N ps (defScope st))
    (hb : ∀ (cdv : Value) (A : Around) (outer : List Env) (s : Shared) (H : Hp) (E : XK), Room k (A.deeper (envOfC qual (defScope st) s.heap.objs.size f cdv)) →
      PSs (cxOf (L2N.CX P w) P w K mg base N qual (defScope st) f cdv A outer s H E) (defBody st) (tSO K Tb (WE E) g)) :
    FnOk P w K mg base (L2N.CX P w) (k + 1) f fd ps (spO K Tb (runO N.length ps.length g)) := by
  obtain ⟨oc, od, kV, doc, pm, an, cdv, ct, osl, rfl, lk, hcd⟩ := F.ex
  refine fn_of lk hcd S (fun vs H Q E h => ?_) fun A outer s H vs Q E hr h => ⟨_, hb cdv A outer s H E hr, ?_⟩
  · obtain ⟨O, ι, St, xs, B, r, h⟩ := h
    rw [r.length]
    exact (runO_post B r h).1
  · obtain ⟨O, ι, St, xs, B, r, h⟩ := h
    obtain ⟨e, h⟩ := runO_post B r h
    refine ⟨ι, H, O, ι, startO N.length xs, St, ?_, ?_⟩
    · have st := StO.init (N.length - xs.length) B r
      unfold L2.start startO
      rw [r.length]
      exact st
    · cases q : g (startO N.length xs) St with
      | nx ρ S' => rw [q] at h; exact h
      | rt d S' => rw [q] at h; exact h
      | exc x ρ S' => rw [q] at h; exact h
      | bk ρ S' => rw [q] at h; exact fun ι' σ' H' st' => (h ι' σ' H' st').elim
      | ct ρ S' => rw [q] at h; exact fun ι' σ' H' st' => (h ι' σ' H' st').elim
      | bad => rw [q] at h; exact h.elim
theorem base_nil {O : List Addr} {H : Hp} (al : Al O H) (tb : ∀ P ∈ Tb, TabC H P) : BaseO K Tb O [] H [] where
  al := al
  tab := tb
  nd := List.nodup_nil
  dj := fun b m => nomatch m
  len := rfl
  cell := fun l c a h _ => by simp at h
theorem hide_nil {O : List Addr} {H : Hp} : hide (O ++ []) H = hide O H := by rw [List.append_nil]
theorem ext_tr {ι : List Addr} {H H' : Hp} (t : TrO [] H ι H') : Ext H H' := ⟨fun b o h n => t.keep b o h (fun m => nomatch m) n, t.tab, t.al⟩
/-- the promise of such a def, as that of a def over data -/
theorem spD_pure {m : MO} {vs : List V} {H : Hp} {Q : VK} {E : XK} (h : spD K Tb (pureO m) vs H Q E) : spO K Tb m vs H Q E := by
  obtain ⟨O, ds, al, tb, r, h⟩ := h
  refine ⟨O, [], [], ds.map .p, base_nil al tb, by rw [hide_nil]; exact VlRs.ofRp r, ?_⟩
  unfold pureO at h
  cases q : m (ds.map .p) [] with
  | ok x S =>
    rw [q] at h
    dsimp only at h
    intro v ι' H' t B r'
    split at h
    · rename_i d hd
      exact h v H' (ext_tr t) (B.snap 6 r' hd)
    · exact h.elim
  | exc e S =>
    rw [q] at h
    intro c dd ι' H' t B r'
    refine h c dd H' (ext_tr t) ?_
    obtain ⟨h1, h2⟩ := r'
    refine ⟨h1, ?_⟩
    rcases h2 with h2 | ⟨d, fs, h3, h4, h5, h6⟩
    · exact .inl h2
    · exact .inr ⟨d, fs, h3, h4, h5, h6.mono less_hid⟩
  | bad => rw [q] at h; exact h
end
end PD
set_option Elab.async false
set_option linter.all false
set_option maxRecDepth 100000
set_option maxHeartbeats 1000000
namespace PD
open PySem PySem.Spec PyProof.Rows L2
section
variable {K : PySem.W.Frag} {Tb O ι ι' : List Addr} {H H' : Hp} {S : Store} {D : Addr} {o o' : HO}
theorem BaseO.hidNew (B : BaseO K Tb O ι H S) (n : H D = none) : BaseO K Tb (D :: O) ι (upd H D o) S := by
  have nD : D ∉ O ++ ι := fun m => B.alA D m n
  have e := Ext.new (o := o) n
  have sub : Sub (hide (O ++ ι) H) (hide ((D :: O) ++ ι) (upd H D o)) := fun b x h t => by
    obtain ⟨h1, h2⟩ := hide_some h
    have hb : b ≠ D := ne_of_none h2 n
    rw [hide_out (by show b ∉ D :: (O ++ ι); rw [List.mem_cons, not_or]; exact ⟨hb, h1⟩), upd_ne hb]
    exact h2
  refine ⟨fun b m => ?_, fun P m => e.tab P (B.tab P m), B.nd, fun b m => ?_, B.len, fun l c a h1 h2 => ?_⟩
  · rcases List.mem_cons.mp m with rfl | m
    · rw [upd_same]; simp
    · exact e.al b (B.al b m)
  · rw [List.mem_cons, not_or]
    exact ⟨fun z => nD (List.mem_append_right _ (z ▸ m)), B.dj b m⟩
  · have r := B.cell l c a h1 h2
    obtain ⟨x, h, q⟩ := r.obj
    exact r.mono sub (List.prefix_refl _) (upd_ne (ne_of_none h n))
theorem BaseO.hidPut (B : BaseO K Tb O ι H S) (m : D ∈ O) (hD : H D = some o) (po : Plain o) : BaseO K Tb O ι (upd H D o') S := by
  have hh : hide (O ++ ι) (upd H D o') = hide (O ++ ι) H := hide_upd (List.mem_append_left _ m)
  refine ⟨fun b mb => ?_, fun P mp => ?_, B.nd, B.dj, B.len, fun l c a h1 h2 => ?_⟩
  · by_cases hb : b = D
    · rw [hb, upd_same]; simp
    · rw [upd_ne hb]; exact B.al b mb
  · have t := B.tab P mp
    have hb : P ≠ D := tabG_ne t fun ps q => by rw [hD] at q; exact po.2 ps (Option.some.inj q)
    exact t.mono (fun ps h => by rw [upd_ne hb]; exact h) fun c q h => by rw [upd_ne fun z => by subst z; exact po.1 _ q (Option.some.inj (hD.symm.trans h))]; exact h
  · rw [hh]
    exact (B.cell l c a h1 h2).mono (fun _ _ h _ => h) (List.prefix_refl _) (upd_ne fun z => B.dj a (List.mem_of_getElem? h2) (z ▸ m))
theorem TrO.updNew (t : TrO ι H ι' H') (n : H D = none) (hD : H' D = some o) (po : Plain o) : TrO ι H ι' (upd H' D o') where
  pre := t.pre
  keep := fun b x h nb ht => by rw [upd_ne (ne_of_none h n)]; exact t.keep b x h nb ht
  tab := fun b tb => by
    have hb : b ≠ D := tabG_ne tb fun ps q => by rw [n] at q; cases q
    exact (t.tab b tb).mono (fun ps h => by rw [upd_ne hb]; exact h) fun c q h => by rw [upd_ne fun z => by subst z; exact po.1 _ q (Option.some.inj (hD.symm.trans h))]; exact h
  al := fun b h => by
    by_cases hb : b = D
    · rw [hb, upd_same]; simp
    · rw [upd_ne hb]; exact t.al b h
  new := t.new
end
/-- [[] for _ in ..] -/
def oNewLL (fi : EOI) : EO := fun ρ S => (fi ρ S).bind fun ds S1 => .ok (.rf (S1.length + ds.length)) (S1 ++ List.replicate ds.length (.lst []) ++ [.lst ((List.range ds.length).map fun k => .rf (S1.length + k))])
theorem refs_rel {K : PySem.W.Frag} {G : Hp} {ι : List Addr} : ∀ (ps qs : List Addr), VlRs K G (ι ++ (qs ++ ps)) (ps.map V.ref) ((List.range ps.length).map fun k => .rf (ι.length + (qs.length + k)))
  | [], _ => .nil
  | p :: ps, qs => by
    rw [List.map_cons, List.length_cons, List.range_succ_eq_map, List.map_cons, List.map_map]
    refine .cons (.rf ?_) ?_
    · rw [List.getElem?_append_right (by omega), List.getElem?_append_right (by omega)]
      simp
    · have ih := refs_rel (K := K) (G := G) (ι := ι) ps (qs ++ [p])
      rw [List.append_assoc, List.singleton_append] at ih
      have e : (List.range ps.length).map (fun k => Vl.rf (ι.length + ((qs ++ [p]).length + k))) = (List.range ps.length).map ((fun k => Vl.rf (ι.length + (qs.length + k))) ∘ Nat.succ) := by
        refine List.map_congr_left fun k _ => ?_
        show Vl.rf _ = Vl.rf _
        congr 1
        rw [List.length_append, List.length_singleton]
        omega
      rw [e] at ih
      exact ih
section
variable {X : Cx} {Tb : List Addr} {W : WX}
theorem ll_walk {K : PySem.W.Frag} {fi : EOI} {v : Nat} {vs : List Nat} {σ : L2.St} {H : Hp} {Q : VK} (hv : v ∈ vs) (h : tO K Tb W (oNewLL fi) σ H Q) :
    tLc (tIO K Tb W fi) (gName v) tYes (tLst tNil) vs σ H Q := by
  obtain ⟨ι0, H0, O, ι, ρ, S, st, q⟩ := h
  refine ⟨ι0, H0, O, ι, ρ, S, st, PostO.then q fun ds S1 J ι1 H1 t B it k => ?_⟩
  intro D nD
  have dO : D ∉ O := fun m => B.al D m nD
  have dI : D ∉ ι1 := fun m => B.alA D (List.mem_append_right _ m) nD
  refine ⟨fun i m H' => i ≤ ds.length ∧ m = ds.length - i ∧ ∃ ps : List Addr, ps.length = i ∧ BaseO K Tb (D :: O) (ι1 ++ ps) H' (S1 ++ List.replicate i (.lst [])) ∧ TrO ι1 H1 (ι1 ++ ps) H' ∧ H' D = some (.lst (ps.map V.ref)),
    ⟨ds.length, Nat.zero_le _, by simp, [], rfl, by simpa using B.hidNew nD, by simpa using TrO.ext (Ext.new nD), upd_same⟩, ?_⟩
  rintro i m H' ⟨hi, rfl, ps, hps, B1, t1, hD⟩
  have eG : Ext (hide (O ++ ι1) H1) H' := t1.hid
  have nO : ∀ b ∈ (D :: O) ++ (ι1 ++ ps), hide (O ++ ι1) H1 b = none := fun b hb => by
    by_cases h1 : b ∈ O ++ ι1
    · exact hide_in h1
    · rw [List.mem_append, not_or] at h1
      rcases List.mem_append.mp hb with hb | hb
      · rcases List.mem_cons.mp hb with rfl | hb
        · exact hide_none nD
        · exact absurd hb h1.1
      · exact hide_none (t1.new b hb h1.2)
  by_cases hlt : i < ds.length
  · refine .inr ⟨it.go i H' eG hlt, fun H2 => i + 1 ≤ ds.length ∧ ∃ ps : List Addr, ps.length = i + 1 ∧ BaseO K Tb (D :: O) (ι1 ++ ps) H2 (S1 ++ List.replicate (i + 1) (.lst [])) ∧ TrO ι1 H1 (ι1 ++ ps) H2 ∧ H2 D = some (.lst (ps.map V.ref)),
      fun H2 q => ⟨ds.length - (i + 1), by omega, q.1, rfl, q.2⟩, fun x H2 y => ?_⟩
    obtain ⟨e2, d, hd, rx⟩ := it.yld i H' ((D :: O) ++ (ι1 ++ ps)) x H2 eG nO B1.alA hlt y
    refine ⟨(Agr.wipe (is := [v]) ⟨by rw [List.length_set], fun j hj => by rw [List.getElem?_set_ne (fun e => hj (by rw [e]; exact List.mem_singleton.mpr rfl))]⟩ (fun i hi => by rw [List.mem_singleton.mp hi]; exact hv)).trans wipe_wipe, ?_⟩
    unfold tYes
    simp only [if_true]
    refine ⟨Nat.zero_le _, fun l hl => ?_⟩
    have B2 := B1.step e2
    obtain ⟨B3, t3⟩ := B2.more (c := .lst []) (a := l) (Ext.new hl) hl ⟨[], upd_same, Nat.zero_le _, .nil⟩
    have hD2 := e2.keep D _ hD (fun _ z => by cases z)
    have hD3 : (upd H2 l (.lst [])) D = some (.lst (ps.map V.ref)) := by rw [upd_ne (ne_of_none hD2 hl)]; exact hD2
    have zl := it.len
    refine ⟨ps.map V.ref, hD3, by rw [List.length_map, hps]; omega, hlt, ps ++ [l], by rw [List.length_append, hps]; rfl, ?_, ?_, ?_⟩
    · rw [List.replicate_succ', ← List.append_assoc, ← List.append_assoc]
      exact B3.hidPut List.mem_cons_self hD3 (plain_lst _)
    · rw [← List.append_assoc]
      exact ((t1.trans (.ext e2)).trans t3).updNew nD hD3 (plain_lst _)
    · rw [upd_same, List.map_append]; rfl
  · have ei : i = ds.length := by omega
    subst ei
    refine .inl ⟨it.stop H' eG, ?_⟩
    have hsub : Sub (hide ((D :: O) ++ (ι1 ++ ps)) H') (hide (O ++ ((ι1 ++ ps) ++ [D])) H') := hid_new
    have dP : D ∉ ι1 ++ ps := fun m => B1.dj D m List.mem_cons_self
    have new : ∀ b ∈ (ι1 ++ ps) ++ [D], b ∉ ι1 → H1 b = none := fun b m h => by
      rcases List.mem_append.mp m with m | m
      · exact t1.new b m h
      · rw [List.mem_singleton.mp m]; exact nD
    have tr : TrO ι1 H1 ((ι1 ++ ps) ++ [D]) H' := ⟨by rw [List.append_assoc]; exact List.prefix_append _ _, t1.keep, t1.tab, t1.al, new⟩
    have BF : BaseO K Tb O ((ι1 ++ ps) ++ [D]) H' (S1 ++ List.replicate ds.length (.lst []) ++ [.lst ((List.range ds.length).map fun k => .rf (S1.length + k))]) := by
      refine ⟨fun b m => B1.al b (List.mem_cons_of_mem _ m), B1.tab, ?_, fun b m => ?_, ?_, fun l c a h1 h2 => ?_⟩
      · exact List.nodup_append.mpr ⟨B1.nd, by simp, fun x hx y hy => by rw [List.mem_singleton.mp hy]; exact fun z => dP (z ▸ hx)⟩
      · rcases List.mem_append.mp m with m | m
        · exact fun z => B1.dj b m (List.mem_cons_of_mem _ z)
        · rw [List.mem_singleton.mp m]; exact dO
      · simp [B.len, hps]
      · have ln : (ι1 ++ ps).length = (S1 ++ List.replicate ds.length (Cell.lst [])).length := B1.len
        by_cases hk : l < (S1 ++ List.replicate ds.length (Cell.lst [])).length
        · rw [List.getElem?_append_left hk] at h1
          rw [List.getElem?_append_left (by rw [ln]; exact hk)] at h2
          exact (B1.cell l c a h1 h2).mono hsub (List.prefix_append _ _) rfl
        · have h2l := (List.getElem?_eq_some_iff.mp h2).1
          have hk2 : l = (S1 ++ List.replicate ds.length (Cell.lst [])).length := by
            rw [List.length_append, ln] at h2l
            rw [List.length_singleton] at h2l
            omega
          subst hk2
          rw [List.getElem?_append_right (Nat.le_refl _), Nat.sub_self] at h1
          rw [← ln, List.getElem?_append_right (Nat.le_refl _), Nat.sub_self] at h2
          cases h1
          cases h2
          refine ⟨ps.map V.ref, hD, by simp; exact it.len, ?_⟩
          have rr := refs_rel (K := K) (G := hide (O ++ ((ι1 ++ ps) ++ [D])) H') (ι := ι1) ps []
          rw [hps] at rr
          simp only [List.nil_append, List.length_nil, Nat.zero_add, B.len] at rr
          exact rr.mono (fun _ _ h _ => h) (List.prefix_append _ _)
    refine k (.ref D) _ H' tr BF (.rf ?_)
    rw [List.getElem?_append_right (by rw [List.length_append, hps, B.len]; exact Nat.le_refl _)]
    simp [hps, B.len]
/-- x = [[] for y in ..] -/
theorem os_newLL {i v : Nat} {y yv : Str} {py : Pos} {iter : Expr} {scope : Scope} {own : List (Str × Nat)} {pos spos lpos vpos : Pos} {fi : EOI} (hc : X.calm = true) (hN : X.N.Nodup) (hy : X.N[i]? = some y) (hyl : X.env.scope.names.lookup y = some .local)
    (hsw : swapsWith (.ListComp (.List [] lpos) [⟨.Name yv vpos, iter, [], 0⟩] scope pos) (some (.Name y py)) spos.line X.env = pure true) (hi : PI X (.Name yv vpos) iter (tIO X.K Tb W fi)) (ok : BlkOk X.N X.env.scope scope own) (hv : X.N[v]? = some yv) (hvo : v ∈ own.map (·.2))
    (hl : ∀ (s : Shared) (H : Hp) (C : Addr) (cl : List (Str × Addr)) (fp : List Addr), Loc (X.blk s H scope (compEnvC scope cl C X.env) fp).env.scope yv)
    (hf : ∀ (s : Shared) (H : Hp) (C : Addr) (cl : List (Str × Addr)) (fp : List Addr), (X.blk s H scope (compEnvC scope cl C X.env) fp).fn yv = true ∨ (X.blk s H scope (compEnvC scope cl C X.env) fp).env.scope.names.lookup yv = some .local)
    (hs : ∀ x, foldedSetIterable iter X.env x = pure x := by intro _; rfl) :
    PS X (.Assign [.Name y py] (.ListComp (.List [] lpos) [⟨.Name yv vpos, iter, [], 0⟩] scope pos) spos) (tSO X.K Tb W (sSet (oNewLL fi) (.nm i))) :=
  (ps_setLc hc hN hy hyl hsw hi ok (fun s H C cl fp => pg_name (X := X.blk s H scope (compEnvC scope cl C X.env) fp) hN hv (hl s H C cl fp) (hf s H C cl fp)) (fun _ _ _ _ _ => pts_nil) (fun _ _ _ _ _ => pe_lst pa_nil) hs).by fun D σ H ⟨ι0, H0, O, ι, ρ, S, st, h⟩ => by
    refine ll_walk (W := W) (Q := fun x H1 => gName i x σ H1 D.nx) hvo ⟨ι0, H0, O, ι, ρ, S, st, oRO_post st h fun d S1 w ι1 H1 t B r k => ?_⟩
    unfold Tg.setO at k
    exact k ι1 _ H1 ((st.step t B).set r)
end
end PD
set_option Elab.async false
set_option linter.all false
set_option maxRecDepth 100000
set_option maxHeartbeats 1000000
namespace PD
open PySem PySem.Spec PyProof.Rows L2
section
variable {X : Cx} {pins : List (Addr × Obj)} {σ : L2.St} {H : Hp} {s : Shared} {E : Value → Shared → Prop}
theorem addI_ok {D : Addr} {S : Int → Bool} {n : Nat} {k : Int} {u : Value} {Q : Value → Shared → Prop} (I : Inv X pins σ H s) (hD : H D = some (SetO X.w D S n)) (ru : RelV (.int k) u) (few : n + 1 < scanBound)
    (h : ∀ s', Inv X pins σ (upd H D (SetO X.w D (fun j => S j || decide (j = k)) (if S k = true then n else n + 1))) s' → Q .none s') : wpAny (model X.prog X.w) X.A (call (.builtin "set.add") [.ref D, u]) Q E s := by
  obtain ⟨tk, rfl⟩ := ru
  refine setR_add (setO_get I hD) few fun h' sb new => ?_
  have he : ∃ u, h'.get? D = some u := by
    have ⟨o, _, _, _, ho, _⟩ := new
    exact ⟨o, ho⟩
  exact h _ (I.write (e := D) (t' := s.toks + 1) (by rw [hD]; trivial) (.inl rfl) (fun b u hb hu => (sb.2 b hb).trans hu) he (setO_new new))
end
/-- what the rule asks of a turn -/
def memTurnI (K : PySem.W.Frag) (w : World) (σ : L2.St) (vs : List Nat) (g : TG) (tt : TT) (tk : TE) (D : Addr) (Nx : Hp → Prop) (x : V) (H : Hp) : Prop :=
  g x (L2.wipe σ vs) H fun σ2 H2 => L2.wipe σ2 vs = L2.wipe σ vs ∧ tt σ2 H2 fun b H3 =>
    if b = true then tk σ2 H3 fun y H4 => ∃ S n k, y = .int k ∧ H4 D = some (SetO w D S n) ∧ n + 1 < scanBound ∧ Nx (upd H4 D (SetO w D (fun j => S j || decide (j = k)) (if S k = true then n else n + 1))) else Nx H3
section
variable {X : Cx} {s0 : Shared} {H0 : Hp} {scope : Scope} {fp : List Addr} {kx g0 i0 tg1 i1 : Expr} {cs0 ifs1 : List Expr} {pos : Pos} {g1 : TG} {tt1 : TT} {tk : TE}
/-- the inner loop, within a turn of the outer one -/
theorem innerSI {pins : List (Addr × Obj)} {fp1 : List Addr} {tn1 : Nat → Heap → Prop} {J1 : It} {it1 D : Addr} {σ2 : L2.St} {vs1 : List Nat} {H4 : Hp} {s : Shared} {R : Result → Shared → Prop} {Nx : Hp → Prop} {W1 : Nat → Nat → Hp → Prop} {m1 : Nat}
    (hu : X.A.units + 64 < cLine) (hc : X.calm = true) (T1 : Turn X.prog X.w X.K tg1 J1 fp1 it1 tn1) (f1 : ∀ b ∈ fp1, FpOk (inBlk X s0 scope H0 fp) pins H4 b)
    (pg1 : PG (inBlk X s0 scope H0 fp) tg1 g1) (pt1 : PTs (inBlk X s0 scope H0 fp) ifs1 tt1) (pk : PE (inBlk X s0 scope H0 fp) kx tk)
    (turn1 : ∀ j k H, W1 j k H → (J1.stop j H ∧ Nx H) ∨ (J1.go j H ∧ ∃ Nx1 : Hp → Prop, (∀ H', Nx1 H' → ∃ k', k' < k ∧ W1 (j + 1) k' H') ∧ ∀ x H', J1.yld j H x H' → memTurnI X.K X.w σ2 vs1 g1 tt1 tk D Nx1 x H'))
    (over : ∀ H s, Inv (inBlk X s0 scope H0 fp) pins (L2.wipe σ2 vs1) H s → Nx H → R (.ok .next) s) (w0 : W1 0 m1 H4) (I : Inv (inBlk X s0 scope H0 fp) pins σ2 H4 s) (t : tn1 0 s.heap) :
    codeAny (model X.prog X.w) X.A (.compLoop (.SetComp kx [⟨g0, i0, cs0, 0⟩, ⟨tg1, i1, ifs1, 0⟩] scope pos) 1 (.ref it1) (.ref D) (envBlk X s0 scope)) R s := by
  have stat : ∀ {H' : Hp}, (∀ b ∈ fp1, H' b = none) → ∀ b ∈ fp1, FpOk (inBlk X s0 scope H0 fp) pins H' b := fun hn b hb => ⟨hn b hb, (f1 b hb).2⟩
  refine loopS_in (fun k s' => ∃ j H', Inv (inBlk X s0 scope H0 fp) pins (L2.wipe σ2 vs1) H' s' ∧ tn1 j s'.heap ∧ (∀ b ∈ fp1, H' b = none) ∧ W1 j k H') ?_ m1 ⟨0, H4, I.weak (wipe_length _ _) (fun j v e => (wipe_some e).1), t, fun b hb => (f1 b hb).1, w0⟩
  rintro k s5 ⟨j, H5, I5, t5, n5, w5⟩
  rcases turn1 j k H5 w5 with ⟨stop, nx⟩ | ⟨go, Nx1, less, each⟩
  · refine thnF (T1.done (inBlk X s0 scope H0 fp) rfl rfl rfl hc j pins s5 (L2.wipe σ2 vs1) H5 (fun _ _ => False) I5 (stat n5) t5 stop) ?_
    rintro r s6 ⟨rfl, I6⟩
    exact over H5 s6 I6 nx
  · refine thnF (T1.item (inBlk X s0 scope H0 fp) rfl rfl rfl hc j pins s5 (L2.wipe σ2 vs1) H5 (fun _ _ => False) I5 (stat n5) t5 go) ?_
    rintro r s6 ⟨u, rfl, h6⟩
    refine thnF h6 ?_
    rintro _ s7 ⟨x, H7, I7, r7, y7, t7, n7⟩
    refine thnF (pg1.run _ s7 (L2.wipe σ2 vs1) H7 x u _ (I7.pinned (stat n7) (T1.obj _ _ t7)) r7 (each x H7 y7)) ?_
    rintro _ s8 ⟨σ8, H8, I8, e8, q8⟩
    refine thnF (pt1.run _ s8 σ8 H8 _ I8 q8) ?_
    rintro b s9 ⟨H9, I9, q9⟩
    have fin : ∀ {s' : Shared} {H' : Hp}, Inv (inBlk X s0 scope H0 fp) (pins ++ pinsAt fp1 s7.heap) σ8 H' s' → Nx1 H' → ∃ m, m < k ∧ ∃ j H', Inv (inBlk X s0 scope H0 fp) pins (L2.wipe σ2 vs1) H' s' ∧ tn1 j s'.heap ∧ (∀ b ∈ fp1, H' b = none) ∧ W1 j m H' := by
      intro s' H' J nx
      obtain ⟨m', lt, w⟩ := less H' nx
      have same : ∀ b ∈ fp1, ∀ o, s7.heap.get? b = some o → s'.heap.get? b = some o ∧ H' b = none := fun b hb o ho => by
        have := J.pin (b, o) (List.mem_append_right _ (List.mem_append_right _ (mem_pinsAt hb ho)))
        exact ⟨this.1, this.2.1⟩
      refine ⟨m', lt, j + 1, H', J.unpinned.weak (by rw [← e8, wipe_length]) (fun i v e => (wipe_some (e8 ▸ e)).1), T1.keep _ _ _ t7 fun b hb o ho => (same b hb o ho).1, fun b hb => ?_, w⟩
      obtain ⟨o, ho, -⟩ := T1.obj _ _ t7 b hb
      exact (same b hb o ho).2
    rcases b with _ | _
    · simp only [Bool.false_eq_true, if_false] at q9 ⊢
      exact fin I9 q9
    · simp only [if_true] at q9 ⊢
      refine thnF (pk.run _ s9 σ8 H9 _ I9 q9) ?_
      rintro kv s10 ⟨_, H10, I10, rk, S, n, key, rfl, hD, few, nx⟩
      exact addI_ok (X := inBlk X s0 scope H0 fp) I10 hD rk few fun s11 I11 => fin I11 nx
end
/-- what the rule asks of a turn of the outer clause -/
def memTurn2I (K : PySem.W.Frag) (w : World) (σ : L2.St) (vs vs1 : List Nat) (g : TG) (tt : TT) (wi1 : TI) (g1 : TG) (tt1 : TT) (tk : TE) (D : Addr) (Nx : Hp → Prop) (x : V) (H : Hp) : Prop :=
  g x (L2.wipe σ vs) H fun σ2 H2 => L2.wipe σ2 vs = L2.wipe σ vs ∧ tt σ2 H2 fun b H3 =>
    if b = true then wi1 σ2 H3 fun J1 H4 => ∃ W1 : Nat → Nat → Hp → Prop, (∃ m, W1 0 m H4) ∧ ∀ j k H, W1 j k H →
      (J1.stop j H ∧ Nx H) ∨ (J1.go j H ∧ ∃ Nx1 : Hp → Prop, (∀ H', Nx1 H' → ∃ k', k' < k ∧ W1 (j + 1) k' H') ∧ ∀ x H', J1.yld j H x H' → memTurnI K w σ2 vs1 g1 tt1 tk D Nx1 x H') else Nx H3
def tScI2 (K : PySem.W.Frag) (w : World) (wi : TI) (g : TG) (tt : TT) (wi1 : TI) (g1 : TG) (tt1 : TT) (tk : TE) (vs vs1 : List Nat) : TE := fun σ H Q => wi σ H fun J H1 => ∀ D, H1 D = none → ∃ W : Nat → Nat → Hp → Prop, (∃ m, W 0 m (upd H1 D (SetO w D (fun _ => false) 0))) ∧ ∀ i m H, W i m H →
  (J.stop i H ∧ Q (.ref D) H) ∨ (J.go i H ∧ ∃ Nx : Hp → Prop, (∀ H', Nx H' → ∃ m', m' < m ∧ W (i + 1) m' H') ∧ ∀ x H', J.yld i H x H' → memTurn2I K w σ vs vs1 g tt wi1 g1 tt1 tk D Nx x H')
section
variable {X : Cx} {σ : L2.St} {vs vs1 : List Nat} {s0 : Shared} {H0 : Hp} {scope : Scope} {fp : List Addr} {tn : Nat → Heap → Prop} {J : It} {tg tg1 i0 i1 : Expr} {it : Addr}
theorem memLoop2I {kx : Expr} {ifs ifs1 : List Expr} {pos : Pos} {g g1 : TG} {tt tt1 : TT} {tk : TE} {wi1 : TI} {D : Addr} {Q : VK} {R : Result → Shared → Prop} {W : Nat → Nat → Hp → Prop} {m0 : Nat}
    (hu : X.A.units + 64 < cLine) (hc : X.calm = true) (hv : ∀ i ∈ vs1, i ∈ vs) (T : Turn X.prog X.w X.K tg J fp it tn)
    (pg : PG (inBlk X s0 scope H0 fp) tg g) (pt : PTs (inBlk X s0 scope H0 fp) ifs tt) (pi1 : PI (inBlk X s0 scope H0 fp) tg1 i1 wi1) (pg1 : PG (inBlk X s0 scope H0 fp) tg1 g1) (pt1 : PTs (inBlk X s0 scope H0 fp) ifs1 tt1) (pk : PE (inBlk X s0 scope H0 fp) kx tk) (hs1 : ∀ x, foldedSetIterable i1 (envBlk X s0 scope) x = pure x)
    (turn : ∀ i m H, W i m H → (J.stop i H ∧ Q (.ref D) H) ∨ (J.go i H ∧ ∃ Nx : Hp → Prop, (∀ H', Nx H' → ∃ m', m' < m ∧ W (i + 1) m' H') ∧ ∀ x H', J.yld i H x H' → memTurn2I X.K X.w σ vs vs1 g tt wi1 g1 tt1 tk D Nx x H'))
    (over : ∀ H s, Inv (inBlk X s0 scope H0 fp) [] (L2.wipe σ vs) H s → Q (.ref D) H → R (.ok .next) s)
    {s : Shared} {H : Hp} (w0 : W 0 m0 H) (a0 : AtTurn X s0 H0 scope fp tn (L2.wipe σ vs) 0 H s) :
    codeAny (model X.prog X.w) X.A (.compLoop (.SetComp kx [⟨tg, i0, ifs, 0⟩, ⟨tg1, i1, ifs1, 0⟩] scope pos) 0 (.ref it) (.ref D) (envBlk X s0 scope)) R s := by
  refine loopS_out hs1 (fun m s => ∃ i H, AtTurn X s0 H0 scope fp tn (L2.wipe σ vs) i H s ∧ W i m H) ?_ m0 ⟨0, H, a0, w0⟩
  intro m s1 ⟨i, H1, a1, w1⟩
  cases turn i m H1 w1 with
  | inl z =>
    refine thnF (T.done (inBlk X s0 scope H0 fp) rfl rfl rfl hc i [] s1 _ H1 (fun _ _ => False) a1.inv (fun b => a1.free) a1.own z.1) ?_
    rintro r s2 ⟨rfl, I2⟩
    exact over H1 s2 I2 z.2
  | inr z =>
    obtain ⟨go, Nx, less, each⟩ := z
    refine thnF (T.item (inBlk X s0 scope H0 fp) rfl rfl rfl hc i [] s1 _ H1 (fun _ _ => False) a1.inv (fun b => a1.free) a1.own go) ?_
    rintro r s2 ⟨u, rfl, hu2⟩
    refine thnF hu2 ?_
    rintro _ s3 ⟨x, H3, I3, rx, hx, t3, n3⟩
    have a3 : AtTurn X s0 H0 scope fp tn (L2.wipe σ vs) (i + 1) H3 s3 := ⟨I3, t3, n3⟩
    have done : ∀ {σ4 : L2.St} {s5 : Shared} {H5 : Hp}, L2.wipe σ4 vs = L2.wipe σ vs → Inv (inBlk X s0 scope H0 fp) ([] ++ pinsAt fp s3.heap) σ4 H5 s5 → Nx H5 →
        ∃ m', m' < m ∧ ∃ i H, AtTurn X s0 H0 scope fp tn (L2.wipe σ vs) i H s5 ∧ W i m' H := by
      intro σ4 s5 H5 e I5 nx
      obtain ⟨m', lt, w⟩ := less H5 nx
      exact ⟨m', lt, i + 1, H5, AtTurn.next (τ := σ) T e t3 I5, w⟩
    refine thnF (pg.run _ s3 _ H3 x u _ (I3.pinned (fun b => a3.free) (T.obj _ _ t3)) rx (each x H3 hx)) ?_
    rintro _ s4 ⟨σ4, H4, I4, e4, q4⟩
    refine thnF (pt.run _ s4 σ4 H4 _ I4 q4) ?_
    rintro b s5 ⟨H5, I5, q5⟩
    rcases b with _ | _
    · simp only [Bool.false_eq_true, if_false] at q5 ⊢
      exact done e4 I5 q5
    · simp only [if_true] at q5 ⊢
      refine thnF (pi1.run _ s5 σ4 H5 _ I5 q5) ?_
      intro xv s6 h6
      refine thnF h6 ?_
      rintro _ s7 ⟨it1, fp1, tn1, J1, H7, rfl, I7, T1, t7, f7, W1, ⟨m1, w1'⟩, turn1⟩
      have ww : L2.wipe (L2.wipe σ4 vs1) vs = L2.wipe σ vs := by
        rw [← e4]
        apply List.ext_getElem?
        intro j
        by_cases hj : j ∈ vs
        · by_cases hl : j < σ4.length
          · rw [wipe_in hj (by rw [wipe_length]; exact hl), wipe_in hj hl]
          · rw [List.getElem?_eq_none (by rw [wipe_length, wipe_length]; omega), List.getElem?_eq_none (by rw [wipe_length]; omega)]
        · rw [wipe_out hj, wipe_out hj, wipe_out fun z => hj (hv j z)]
      have loop1 := innerSI (X := X) (g0 := tg) (i0 := i0) (cs0 := ifs) (i1 := i1) (pos := pos) (Nx := Nx) (R := fun r s' => match r with
        | .ok _ => ∃ m', m' < m ∧ ∃ i H, AtTurn X s0 H0 scope fp tn (L2.wipe σ vs) i H s' ∧ W i m' H
        | .error _ => False) hu hc T1 f7 pg1 pt1 pk turn1 (fun H s I nx => done ww I nx) w1' I7 t7
      exact startS_in loop1 (T1.self X.A 0 _ _ _ t7 loop1)
end
section
variable {X : Cx} {kx tg iter tg1 i1 : Expr} {ifs ifs1 : List Expr} {scope : Scope} {own : List (Str × Nat)} {vs1 : List Nat} {pos : Pos} {wi wi1 : TI} {g g1 : TG} {tt tt1 : TT} {tk : TE}
theorem pe_scI2 (hu : X.A.units + 64 < cLine) (hc : X.calm = true) (hN : X.N.Nodup) (hi : PI X tg iter wi) (ok : BlkOk X.N X.env.scope scope own) (hv : ∀ i ∈ vs1, i ∈ own.map (·.2))
    (hg : ∀ (s : Shared) (H : Hp) (C : Addr) (cl : List (Str × Addr)) (fp : List Addr), PG (X.blk s H scope (compEnvC scope cl C X.env) fp) tg g) (ht : ∀ (s : Shared) (H : Hp) (C : Addr) (cl : List (Str × Addr)) (fp : List Addr), PTs (X.blk s H scope (compEnvC scope cl C X.env) fp) ifs tt)
    (hi1 : ∀ (s : Shared) (H : Hp) (C : Addr) (cl : List (Str × Addr)) (fp : List Addr), PI (X.blk s H scope (compEnvC scope cl C X.env) fp) tg1 i1 wi1)
    (hg1 : ∀ (s : Shared) (H : Hp) (C : Addr) (cl : List (Str × Addr)) (fp : List Addr), PG (X.blk s H scope (compEnvC scope cl C X.env) fp) tg1 g1) (ht1 : ∀ (s : Shared) (H : Hp) (C : Addr) (cl : List (Str × Addr)) (fp : List Addr), PTs (X.blk s H scope (compEnvC scope cl C X.env) fp) ifs1 tt1)
    (hk : ∀ (s : Shared) (H : Hp) (C : Addr) (cl : List (Str × Addr)) (fp : List Addr), PE (X.blk s H scope (compEnvC scope cl C X.env) fp) kx tk)
    (hs : ∀ x, foldedSetIterable iter X.env x = pure x := by intro _; rfl) (hs1 : ∀ env x, foldedSetIterable i1 env x = pure x := by intro _ _; rfl) :
    PE X (.SetComp kx [⟨tg, iter, ifs, 0⟩, ⟨tg1, i1, ifs1, 0⟩] scope pos) (tScI2 X.K X.w wi g tt wi1 g1 tt1 tk (own.map (·.2)) vs1) := by
  have P := KeyParts.of (Nat.lt_of_le_of_lt (Nat.le_add_right _ _) hu) hc hN hi ok hg ht hk hs
  constructor
  intro pins s σ H Q I h
  rw [PpSet.eval_SetComp]
  have cells : ∀ y ∈ scope.names, y.2 = .free → ∃ c, X.env.cells.lookup y.1 = some c := by
    intro y hy e
    cases P.blk.free y hy e with
    | inl z => exact I.ok.has _ (.inl z)
    | inr z => exact I.ok.has _ (.inr z)
  have locs : ∀ y ∈ scope.names, y.2 = .local → scope.names.lookup y.1 = some .local := fun y hy e => (P.blk.uniq y hy).trans (congrArg some e)
  refine wpAny_comprehension_free (use := none) rfl P.plain (closure_ok cells) P.blk.kind locs ?_
  refine thn (P.walk.run pins s σ H _ I h) ?_
  intro x s1 h1
  refine thn h1 ?_
  rintro _ s2 ⟨it, fp, tn, J, H2, rfl, I2, T, t2, f2, h2⟩
  refine PpSet.newSet_ok ?_
  obtain ⟨W, ⟨m0, w0⟩, turn⟩ := h2 s2.heap.objs.size (I2.hok.fresh (Nat.le_refl _))
  have I3 : Inv X pins σ (upd H2 s2.heap.objs.size (SetO X.w s2.heap.objs.size (fun _ => false) 0)) { s2 with heap := s2.heap.push { cls := .type "set", dict := none, data := .set #[] 0 (.fresh 0 0 (!X.w.params.followText "set-order")) } } :=
    I2.laid (t' := s2.toks) (fun b o e => Heap.get?_push_of_some _ e) (Nat.le_refl _) (setO_new (setR_fresh X.w))
  have f3 : ∀ b ∈ fp, FpOk X pins (upd H2 s2.heap.objs.size (SetO X.w s2.heap.objs.size (fun _ => false) 0)) b ∧ b < (s2.heap.push { cls := .type "set", dict := none, data := .set #[] 0 (.fresh 0 0 (!X.w.params.followText "set-order")) }).objs.size := by
    intro b hb
    obtain ⟨o, hbo, -⟩ := T.obj _ _ t2 b hb
    have lt : b < s2.heap.objs.size := Heap.lt_size hbo
    refine ⟨⟨(upd_ne (Nat.ne_of_lt lt)).trans (f2 b hb).1, (f2 b hb).2⟩, ?_⟩
    rw [Heap.size_push]
    exact Nat.lt_succ_of_lt lt
  have t3 := T.keep _ _ (s2.heap.push { cls := .type "set", dict := none, data := .set #[] 0 (.fresh 0 0 (!X.w.params.followText "set-order")) }) t2 fun b _ o e => Heap.get?_push_of_some _ e
  refine newEnv_comp ?_
  have t4 := T.keep _ _ (pushCells ((s2.heap.push { cls := .type "set", dict := none, data := .set #[] 0 (.fresh 0 0 (!X.w.params.followText "set-order")) }).push { cls := .type "dict", data := .dict #[] }) scope.names) t3 fun b _ o e => pushCells_keeps _ _ _ _ (Heap.get?_push_of_some _ e)
  have loop := memLoop2I (σ := σ) (vs := own.map (·.2)) (pos := pos) (R := compPost (model X.prog X.w) X.A X.xe none (fun u s' => ∃ v H', Inv X pins σ H' s' ∧ RelV v u ∧ Q v H') (.ref s2.heap.objs.size) (s2.heap.push { cls := .type "set", dict := none, data := .set #[] 0 (.fresh 0 0 (!X.w.params.followText "set-order")) }).objs.size) (i0 := iter)
    hu P.calm hv T (P.tgt _ _ fp) (P.test _ _ fp) (hi1 _ _ _ _ fp) (hg1 _ _ _ _ fp) (ht1 _ _ _ _ fp) (P.key _ _ fp) (hs1 _) turn
    (fun H5 s5 I5 q => by
      obtain ⟨I6, f6, m, hm⟩ := AtTurn.leave I3 (fun b hb => (f3 b hb).1) I5
      refine ⟨m, hm, fun h2 sb => ⟨.ref _, H5, FpOk_drop f6 I6 ?_, rfl, q⟩⟩
      intro b o hb e
      rw [← e]
      exact sb.2 b hb)
    w0 ⟨block_start I3 P.blk P.nd f3, t4, fun b hb => (f3 b hb).1.1⟩
  exact PpSet.codeAny_compStart_set loop (T.self X.A 0 _ _ _ t4 loop)
end
def dcGoI (t : Tg) (ft : DnB) (fk : Dn) (ρ : Rho) : List PyData → List Int → R (List Int)
  | [], acc => .ok acc
  | d :: ds, acc => match t.set d ρ with
    | some ρ1 => nx (ft ρ1) fun b => if b = true then nx (fk ρ1) fun y => (match y with
        | .int k => dcGoI t ft fk ρ ds (if k ∈ acc then acc else acc ++ [k])
        | _ => .bad) else dcGoI t ft fk ρ ds acc
    | none => .bad
theorem dcGoI_more {t : Tg} {ft : DnB} {fk : Dn} {ρ : Rho} : ∀ {ds : List PyData} {acc ks : List Int}, dcGoI t ft fk ρ ds acc = .ok ks → acc.length ≤ ks.length
  | [], acc, ks, h => by cases h; exact Nat.le_refl _
  | d :: ds, acc, ks, h => by
    unfold dcGoI at h
    cases et : t.set d ρ with
    | none => rw [et] at h; cases h
    | some ρ1 =>
      rw [et] at h
      obtain ⟨b, _, h⟩ := nx_ok h
      cases b with
      | false => exact dcGoI_more h
      | true =>
        obtain ⟨y, _, h⟩ := nx_ok h
        cases y with
        | int k =>
          have h1 := dcGoI_more h
          split at h1
          · exact h1
          · rw [List.length_append] at h1
            omega
        | _ => cases h
def dc2GoI (t : Tg) (ft : DnB) (fi1 : DnL) (t1 : Tg) (ft1 : DnB) (fk : Dn) (vs1 : List Nat) (ρ : Rho) : List PyData → List Int → R (List Int)
  | [], acc => .ok acc
  | d :: ds, acc => match t.set d ρ with
    | some ρ1 => nx (ft ρ1) fun b => if b = true then nx (fi1 ρ1) fun es => nx (dcGoI t1 ft1 fk (wipeR ρ1 vs1) es acc) fun acc' => dc2GoI t ft fi1 t1 ft1 fk vs1 ρ ds acc' else dc2GoI t ft fi1 t1 ft1 fk vs1 ρ ds acc
    | none => .bad
theorem dc2GoI_more {t : Tg} {ft : DnB} {fi1 : DnL} {t1 : Tg} {ft1 : DnB} {fk : Dn} {vs1 : List Nat} {ρ : Rho} : ∀ {ds : List PyData} {acc ks : List Int}, dc2GoI t ft fi1 t1 ft1 fk vs1 ρ ds acc = .ok ks → acc.length ≤ ks.length
  | [], acc, ks, h => by cases h; exact Nat.le_refl _
  | d :: ds, acc, ks, h => by
    unfold dc2GoI at h
    cases et : t.set d ρ with
    | none => rw [et] at h; cases h
    | some ρ1 =>
      rw [et] at h
      obtain ⟨b, _, h⟩ := nx_ok h
      cases b with
      | false => exact dc2GoI_more h
      | true =>
        obtain ⟨es, _, h⟩ := nx_ok h
        obtain ⟨acc', e, h⟩ := nx_ok h
        exact Nat.le_trans (dcGoI_more e) (dc2GoI_more h)
def dSortSc2I (fi : DnL) (t : Tg) (ft : DnB) (fi1 : DnL) (t1 : Tg) (ft1 : DnB) (fe : Dn) (vs vs1 : List Nat) : Dn := fun ρ => fi ρ >>= fun ds => nx (dc2GoI t ft fi1 t1 ft1 fe vs1 (wipeR ρ vs) ds []) fun ks => if ks.length < 60 then .ok (.list ((uniq ks).map .int)) else .bad
section
variable {K : PySem.W.Frag} {Tb : List Addr} {P : Program} {w : World}
/-- the set of these members -/
def memO (w : World) (D : Addr) (acc : List Int) : HO := SetO w D (fun j => decide (j ∈ acc)) acc.length
theorem memO_put {D : Addr} {acc : List Int} {k : Int} : SetO w D (fun j => decide (j ∈ acc) || decide (j = k)) (if decide (k ∈ acc) = true then acc.length else acc.length + 1) = memO w D (if k ∈ acc then acc else acc ++ [k]) := by
  unfold memO
  by_cases h : k ∈ acc
  · rw [if_pos (decide_eq_true h), if_pos h]
    congr 1
    funext j
    by_cases e : j = k
    · subst e; simp [h]
    · simp [e]
  · rw [if_neg (by simpa using h), if_neg h, List.length_append]
    congr 1
    funext j
    by_cases e : j = k
    · subst e; simp
    · simp [e]
theorem plain_setI (w : World) (a : Addr) (L : List Int) : Plain (memO w a L) := plain_ext fun n q x => by
  obtain ⟨o, es, ep, t, h1, _, h3, _⟩ := x
  rw [codeHeap_get h1] at h3
  cases h3
theorem setI_xd {a : Addr} {L : List Int} : ∀ fs, memO w a L ≠ .xd fs := fun _ z => by cases z
/-- the turns of the inner clause: what it tells goes into the set at D -/
theorem in_turnsSI {t : Tg} {ft : DnB} {fk : Dn} {vs : List Nat} {σ σB : L2.St} {ρ ρB : Rho} {H0 H1 : Hp} {O0 O : List Addr} {J : It} {D : Addr} {ds : List PyData} {acc0 acc1 : List Int} {Nx : Hp → Prop} (hv : ∀ i ∈ t.ixs, i ∈ vs) (mD : D ∈ O) (mD0 : D ∉ O0)
    (own : ∀ (i : Nat) (s : Sl), s.Hold → ρ[i]? = some (some s) → σ[i]? ≠ some (some (.ref D))) (ownB : ∀ (i : Nat) (s : Sl), s.Hold → ρB[i]? = some (some s) → σB[i]? ≠ some (some (.ref D)))
    (stA : St0 K Tb H0 O0 O H1 σ ρ) (stB : St0 K Tb H0 O0 O H1 σB ρB) (it : ItD K (hide O H1) J ds) (hgo : dcGoI t ft fk (wipeR ρ vs) ds acc0 = .ok acc1) (hD0 : H1 D = some (memO w D acc0)) (zl : acc1.length < 60)
    (fin : ∀ H', St0 K Tb H0 O0 O H' σB ρB → Ext (hide [D] H1) H' → H' D = some (memO w D acc1) → Nx H') :
    ∃ W1 : Nat → Nat → Hp → Prop, (∃ m, W1 0 m H1) ∧ ∀ j k H, W1 j k H → (J.stop j H ∧ Nx H) ∨ (J.go j H ∧ ∃ Nx1 : Hp → Prop, (∀ H', Nx1 H' → ∃ k', k' < k ∧ W1 (j + 1) k' H') ∧ ∀ x H', J.yld j H x H' → memTurnI K w σ vs (tG K Tb t) (tDT K Tb W0 ft) (tD K Tb W0 fk) D Nx1 x H') := by
  have stw := stA.wiped vs
  have ownW : ∀ (i : Nat) (s : Sl), s.Hold → (wipeR ρ vs)[i]? = some (some s) → (L2.wipe σ vs)[i]? ≠ some (some (.ref D)) := fun i xs hs h1 h2 => by
    obtain ⟨g1, g2⟩ := wipeR_some h1
    rw [wipe_out g2] at h2
    exact own i xs hs g1 h2
  have nO : ∀ b ∈ O, hide O H1 b = none := fun b hb => hide_in hb
  have eO : Ext (hide O H1) (hide [D] H1) := by
    have sub : ∀ b o, hide O H1 b = some o → hide [D] H1 b = some o := fun b o h => by
      obtain ⟨h1, h2⟩ := hide_some h
      rw [hide_out (by simp only [List.mem_singleton]; exact fun z => h1 (by rw [z]; exact mD))]
      exact h2
    refine ⟨fun b o h _ => sub b o h, fun b t => t.mono (fun ps h => sub b _ h) fun c q h => sub c _ h, fun b h => ?_⟩
    cases q : hide O H1 b with
    | none => exact absurd q h
    | some x => rw [sub b x q]; simp
  have nD : hide [D] H1 D = none := hide_in (by simp)
  refine ⟨fun i m H' => i ≤ ds.length ∧ m = ds.length - i ∧ ∃ acc, St0 K Tb H0 O0 O H' (L2.wipe σ vs) (wipeR ρ vs) ∧ St0 K Tb H0 O0 O H' σB ρB ∧ Ext (hide [D] H1) H' ∧ H' D = some (memO w D acc) ∧ dcGoI t ft fk (wipeR ρ vs) (ds.drop i) acc = .ok acc1,
    ⟨ds.length, Nat.zero_le _, by simp, acc0, stw, stB, Ext.unhide, hD0, hgo⟩, ?_⟩
  rintro i m H' ⟨hi, rfl, acc, s1, sB, e1, hD, go⟩
  have eG : Ext (hide O H1) H' := eO.trans e1
  have few := dcGoI_more go
  by_cases hlt : i < ds.length
  · refine .inr ⟨it.go i H' eG hlt, fun H2 => i + 1 ≤ ds.length ∧ ∃ acc, St0 K Tb H0 O0 O H2 (L2.wipe σ vs) (wipeR ρ vs) ∧ St0 K Tb H0 O0 O H2 σB ρB ∧ Ext (hide [D] H1) H2 ∧ H2 D = some (memO w D acc) ∧ dcGoI t ft fk (wipeR ρ vs) (ds.drop (i + 1)) acc = .ok acc1,
      fun H2 q => ⟨ds.length - (i + 1), by omega, q.1, rfl, q.2⟩, fun x H2 y => ?_⟩
    obtain ⟨e2, d, hd, rx⟩ := it.yld i H' O x H2 eG nO s1.al hlt y
    have hdr : ds.drop i = d :: ds.drop (i + 1) := by
      obtain ⟨hl, hd'⟩ := List.getElem?_eq_some_iff.mp hd
      rw [List.drop_eq_getElem_cons hl, hd']
    rw [hdr] at go
    unfold dcGoI at go
    cases et : t.set d (wipeR ρ vs) with
    | none => rw [et] at go; cases go
    | some ρ1 =>
      rw [et] at go
      obtain ⟨b, eb, go⟩ := nx_ok go
      have s2 := s1.step e2
      refine ⟨H0, O0, O, wipeR ρ vs, ρ1, d, s2, rx, et, fun σ' st' ag => ⟨(ag.wipe hv).trans wipe_wipe, H0, O0, O, ρ1, st', ?_⟩⟩
      rw [eb]
      intro b' H3 e3 r3
      cases (show b' = b from r3)
      have s3 := st'.step e3
      have keepD : ∀ {G : Hp}, Ext H' G → G D = some (memO w D acc) := fun e => e.keep D _ hD (fun _ q => by cases q)
      cases b with
      | false => exact ⟨hlt, acc, s2.step e3, sB.step (e2.trans e3), e1.trans (e2.trans e3), keepD (e2.trans e3), go⟩
      | true =>
        obtain ⟨yd, ey1, go⟩ := nx_ok go
        refine ⟨H0, O0, O, ρ1, s3, ?_⟩
        rw [ey1]
        intro y H4 e4 r4
        cases yd with
        | int key =>
          have go : dcGoI t ft fk (wipeR ρ vs) (ds.drop (i + 1)) (if key ∈ acc then acc else acc ++ [key]) = .ok acc1 := go
          cases r4
          have e24 := (e2.trans e3).trans e4
          have hD4 := keepD e24
          have s4 := (s2.step e3).step e4
          have sB4 := sB.step e24
          refine ⟨_, _, key, rfl, hD4, by unfold scanBound; omega, ?_⟩
          rw [memO_put]
          exact ⟨hlt, if key ∈ acc then acc else acc ++ [key], s4.hidO mD mD0 hD4 (plain_setI w D _) (plain_setI w D _) ownW setI_xd, sB4.hidO mD mD0 hD4 (plain_setI w D _) (plain_setI w D _) ownB setI_xd, (e1.trans e24).updN nD (fun c q z => (plain_setI w D _).1 c q (Option.some.inj (hD4.symm.trans z))), upd_same, go⟩
        | _ => cases go
  · have ei : i = ds.length := by omega
    subst ei
    refine .inl ⟨it.stop H' eG, ?_⟩
    rw [List.drop_length] at go
    cases go
    exact fin H' sB e1 hD
end
section
variable {X : Cx} {Tb : List Addr} {W : WX}
theorem sc2I_walk {K : PySem.W.Frag} {w : World} {t t1 : Tg} {ft ft1 : DnB} {fk : Dn} {fi fi1 : DnL} {vs vs1 : List Nat} {σ : L2.St} {H : Hp} {Q : VK} (hv : ∀ i ∈ t.ixs, i ∈ vs) (hv1 : ∀ i ∈ t1.ixs, i ∈ vs1) (h : tD K Tb W (dSortSc2I fi t ft fi1 t1 ft1 fk vs vs1) σ H Q) :
    tScI2 K w (tI K Tb W fi) (tG K Tb t) (tDT K Tb W0 ft) (tI K Tb W0 fi1) (tG K Tb t1) (tDT K Tb W0 ft1) (tD K Tb W0 fk) vs vs1 σ H (fun x H1 => rSortedSet w [x] H1 Q) := by
  obtain ⟨H0, O0, O, ρ, st, h⟩ := h
  refine ⟨H0, O0, O, ρ, st, Post.then h fun ds J H1 e it k => ?_⟩
  cases q : dc2GoI t ft fi1 t1 ft1 fk vs1 (wipeR ρ vs) ds [] with
  | exc x => rw [q] at k; exact k.elim
  | bad => rw [q] at k; exact k.elim
  | ok ks =>
    rw [q, nx_ok'] at k
    split at k
    case isFalse => exact k.elim
    rename_i lim
    have st1 := st.step e
    intro D nD
    have aD : D ∉ O := st1.fresh nD
    have stw := (st1.wiped vs).more (o := memO w D []) nD (plain_setI w D [])
    have aD0 : D ∉ O0 := fun m => aD (st1.sub D m)
    have own : ∀ (i : Nat) (s : Sl), s.Hold → (wipeR ρ vs)[i]? = some (some s) → (L2.wipe σ vs)[i]? ≠ some (some (.ref D)) := fun i s hs h1 h2 => aD ((st1.wiped vs).hold hs h1 h2).1
    have nO : ∀ b ∈ D :: O, hide O H1 b = none := fun b hb => by
      rcases List.mem_cons.mp hb with rfl | hb
      · exact hide_none nD
      · exact hide_in hb
    refine ⟨fun i m H' => i ≤ ds.length ∧ m = ds.length - i ∧ ∃ acc, St0 K Tb H0 O0 (D :: O) H' (L2.wipe σ vs) (wipeR ρ vs) ∧ Ext H1 H' ∧ H' D = some (memO w D acc) ∧ dc2GoI t ft fi1 t1 ft1 fk vs1 (wipeR ρ vs) (ds.drop i) acc = .ok ks,
      ⟨ds.length, Nat.zero_le _, by simp, [], stw, Ext.new nD, upd_same, q⟩, ?_⟩
    rintro i m H' ⟨hi, rfl, acc, s1, e1, hD, go⟩
    have eG : Ext (hide O H1) H' := Ext.unhide.trans e1
    by_cases hlt : i < ds.length
    · refine .inr ⟨it.go i H' eG hlt, fun H2 => i + 1 ≤ ds.length ∧ ∃ acc, St0 K Tb H0 O0 (D :: O) H2 (L2.wipe σ vs) (wipeR ρ vs) ∧ Ext H1 H2 ∧ H2 D = some (memO w D acc) ∧ dc2GoI t ft fi1 t1 ft1 fk vs1 (wipeR ρ vs) (ds.drop (i + 1)) acc = .ok ks,
        fun H2 q => ⟨ds.length - (i + 1), by omega, q.1, rfl, q.2⟩, fun x H2 y => ?_⟩
      obtain ⟨e2, d, hd, rx⟩ := it.yld i H' (D :: O) x H2 eG nO s1.al hlt y
      have hdr : ds.drop i = d :: ds.drop (i + 1) := by
        obtain ⟨hl, hd'⟩ := List.getElem?_eq_some_iff.mp hd
        rw [List.drop_eq_getElem_cons hl, hd']
      rw [hdr] at go
      unfold dc2GoI at go
      cases et : t.set d (wipeR ρ vs) with
      | none => rw [et] at go; cases go
      | some ρ1 =>
        rw [et] at go
        obtain ⟨b, eb, go⟩ := nx_ok go
        have s2 := s1.step e2
        refine ⟨H0, O0, D :: O, wipeR ρ vs, ρ1, d, s2, rx, et, fun σ2 st2 ag => ⟨(ag.wipe hv).trans wipe_wipe, H0, O0, D :: O, ρ1, st2, ?_⟩⟩
        rw [eb]
        intro b' H3 e3 r3
        cases (show b' = b from r3)
        have s3 := st2.step e3
        have keepD : ∀ {G : Hp}, Ext H' G → G D = some (memO w D acc) := fun e => e.keep D _ hD (fun _ q => by cases q)
        cases b with
        | false => exact ⟨hlt, acc, s2.step e3, e1.trans (e2.trans e3), keepD (e2.trans e3), go⟩
        | true =>
          obtain ⟨es, ee, go⟩ := nx_ok go
          obtain ⟨acc1, ea, go⟩ := nx_ok go
          have few := dc2GoI_more go
          refine ⟨H0, O0, D :: O, ρ1, s3, ?_⟩
          rw [ee]
          intro J1 H4 e4 it1
          have e24 := (e2.trans e3).trans e4
          have hD4 := keepD e24
          have s4 := s3.step e4
          have sB := (s2.step e3).step e4
          have own1 : ∀ (i : Nat) (s : Sl), s.Hold → ρ1[i]? = some (some s) → σ2[i]? ≠ some (some (.ref D)) := fun i xs hs h1 h2 => by
            have g1 := tg_own hs h1 et
            obtain ⟨_, g2⟩ := wipeR_some g1
            rw [ag.2 i fun m => g2 (hv i m)] at h2
            exact own i xs hs g1 h2
          refine in_turnsSI (acc0 := acc) (acc1 := acc1) hv1 List.mem_cons_self aD0 own1 own s4 sB it1 ea hD4 (by omega) fun H5 sB5 e5 hD5 => ?_
          exact ⟨hlt, acc1, sB5, ext_past (e1.trans e24) nD (fun c q z => (plain_setI w D _).1 c q (Option.some.inj (hD4.symm.trans z))) e5, hD5, go⟩
    · have ei : i = ds.length := by omega
      subst ei
      refine .inl ⟨it.stop H' eG, ?_⟩
      rw [List.drop_length] at go
      cases go
      refine ⟨D, _, _, rfl, hD, by omega, fun ns p asc mem hl hp => ?_⟩
      have en : ns = uniq ks := asc_uniq asc (uniq_asc ks) fun z => by rw [mem_uniq, mem z, decide_eq_true_eq]
      have pO : p ∉ D :: O := fun m => s1.al p m hp
      subst en
      refine k (.ref p) _ (e1.trans (Ext.new hp)) (.lst (xs := (uniq ks).map V.int) (.of ?_) ?_ (rp_intsV _))
      · rw [hide_out (fun m => pO (List.mem_cons_of_mem _ m)), upd_same]
      · rw [List.length_map, hl, sizeLine_eq]; omega
variable {kx tg iter tg1 i1 : Expr} {ifs ifs1 : List Expr} {scope : Scope} {own : List (Str × Nat)} {vs1 : List Nat} {pos pos2 p : Pos}
/-- sorted({e for t in i if c for t1 in i1 if c1}) -/
theorem fd_sortSc2I {k : Nat} {fi fi1 : DnL} {t t1 : Tg} {ft ft1 : DnB} {fk : Dn} (hr : Room k X.A) (B : Bi X.mg) (hc : X.calm = true) (hN : X.N.Nodup) (hi : PI X tg iter (tI X.K Tb W fi)) (ok : BlkOk X.N X.env.scope scope own)
    (hg : ∀ (s : Shared) (H : Hp) (C : Addr) (cl : List (Str × Addr)) (fp : List Addr), PG (X.blk s H scope (compEnvC scope cl C X.env) fp) tg (tG X.K Tb t))
    (ht : ∀ (s : Shared) (H : Hp) (C : Addr) (cl : List (Str × Addr)) (fp : List Addr), PTs (X.blk s H scope (compEnvC scope cl C X.env) fp) ifs (tDT X.K Tb W0 ft))
    (hi1 : ∀ (s : Shared) (H : Hp) (C : Addr) (cl : List (Str × Addr)) (fp : List Addr), PI (X.blk s H scope (compEnvC scope cl C X.env) fp) tg1 i1 (tI X.K Tb W0 fi1))
    (hg1 : ∀ (s : Shared) (H : Hp) (C : Addr) (cl : List (Str × Addr)) (fp : List Addr), PG (X.blk s H scope (compEnvC scope cl C X.env) fp) tg1 (tG X.K Tb t1))
    (ht1 : ∀ (s : Shared) (H : Hp) (C : Addr) (cl : List (Str × Addr)) (fp : List Addr), PTs (X.blk s H scope (compEnvC scope cl C X.env) fp) ifs1 (tDT X.K Tb W0 ft1))
    (hk : ∀ (s : Shared) (H : Hp) (C : Addr) (cl : List (Str × Addr)) (fp : List Addr), PE (X.blk s H scope (compEnvC scope cl C X.env) fp) kx (tD X.K Tb W0 fk))
    (hG : Gl X "sorted" := by rfl) (hvv : ∀ i ∈ vs1, i ∈ own.map (·.2) := by decide) (hv : ∀ i ∈ t.ixs, i ∈ own.map (·.2) := by decide) (hv1 : ∀ i ∈ t1.ixs, i ∈ vs1 := by decide) (hs : ∀ x, foldedSetIterable iter X.env x = pure x := by intro _; rfl) (hs1 : ∀ env x, foldedSetIterable i1 env x = pure x := by intro _ _; rfl)
    (n2 : starEach [.SetComp kx [⟨tg, iter, ifs, 0⟩, ⟨tg1, i1, ifs1, 0⟩] scope pos2] X.env = (false, eval (.SetComp kx [⟨tg, iter, ifs, 0⟩, ⟨tg1, i1, ifs1, 0⟩] scope pos2) X.env) :: starEach [] X.env := by rfl) :
    PE X (.Call (.Name "sorted" p) [.SetComp kx [⟨tg, iter, ifs, 0⟩, ⟨tg1, i1, ifs1, 0⟩] scope pos2] [] pos) (tD X.K Tb W (dSortSc2I fi t ft fi1 t1 ft1 fk (own.map (·.2)) vs1)) :=
  (pe_callB (cr_sortedSet hc) hG B.sorted boot_sorted (pa_cons (pe_scI2 hr.u64 hc hN hi ok hvv hg ht hi1 hg1 ht1 hk hs hs1) pa_nil n2) (by decide) (by decide) n2 (by rfl)).by fun σ H Q h => sc2I_walk hv hv1 h
end
end PD
set_option Elab.async false
set_option linter.all false
set_option maxRecDepth 100000
set_option maxHeartbeats 4000000
namespace LW
open PySem PySem.Spec PyProof.Rows L2 PD
def b_law_draws_1 : Sn := (gIf (dAnd (dAsB (dVar 3)) (dAsB (dTwo oGt (dVar 2) (dC (.int 0))))) (gSeq (gApp 5 (dTwo oMod (dArg bInt (dCons (dVar 2) dNil)) (dC (.int 5040)))) (gSet (dTwo oDiv (dVar 2) (dC (.int 5040))) (.nm 2))) (gSeq (gSet (dTwo oMod (dArg bInt (dCons (dTwo oAdd (dTwo oAdd (dTwo oMul (dVar 4) (dC (.int 48271))) (dTwo oMul (dTwo oAdd (dVar 6) (dC (.int 1))) (dC (.int 69621)))) (dC (.int 11))) dNil)) (dC (.int 2147483647))) (.nm 7)) (gSeq (gSet (dTwo oMod (dArg bInt (dCons (dTwo oAdd (dTwo oMul (dVar 7) (dVar 7)) (dTwo oMul (dC (.int 40692)) (dTwo oAdd (dVar 6) (dC (.int 3))))) dNil)) (dC (.int 2147483399))) (.nm 7)) (gApp 5 (dTwo oMod (dArg bInt (dCons (dTwo oDiv (dVar 7) (dC (.int 64))) dNil)) (dC (.int 5040)))))))
def g_law_draws : Sn := (gSeq (gSet (dArg bAbs (dCons (dArg bInt (dCons (dVar 0) dNil)) dNil)) (.nm 2)) (gSeq (gSet (dTwo oGe (dVar 2) (dTwo oPow (dC (.int 10)) (dC (.int 18)))) (.nm 3)) (gSeq (gSet (dVar 2) (.nm 4)) (gSeq (gOwn (dLst dNil) 5) (gSeq (gFor (dRng1 (dCons (dVar 1) dNil)) (.nm 6) b_law_draws_1) (gFrz 5 (gRet (dVar 5))))))))
def m_law_draws : List PyData → R PyData := runD 8 2 g_law_draws
def g_law_cell : Sn := (gSeq (gIf (dAsB (dTwo oLt (dVar 1) (dArg bLen (dCons (dVar 0) dNil)))) (gRet (dTwo oIx (dVar 0) (dVar 1))) gSkip) (gRet (dTwo oAdd (dTwo oMul (dC (.int 5)) (dVar 1)) (dC (.int 3)))))
def m_law_cell : List PyData → R PyData := runD 2 2 g_law_cell
def b_law_parts_of_1 : Sn := (gSet (dTwo oAdd (dVar 1) (dLc (dItems (dVar 1)) (.nm 3) dYes (dTwo oAdd (dVar 3) (dTup (dCons (dVar 2) dNil))) [3])) (.nm 1))
def g_law_parts_of : Sn := (gSeq (gSet (dLst (dCons (dTup dNil) dNil)) (.nm 1)) (gSeq (gFor (dRng1 (dCons (dVar 0) dNil)) (.nm 2) b_law_parts_of_1) (gRet (dArg bSorted (dCons (dVar 1) dNil)))))
def m_law_parts_of : List PyData → R PyData := runD 4 1 g_law_parts_of
def g_law_rest : Sn := (gRet (dArg bTuple (dCons (dLc (dRng1 (dCons (dVar 1) dNil)) (.nm 2) (dAsB (dTwo oNotIn (dVar 2) (dVar 0))) (dVar 2) [2]) dNil)))
def m_law_rest : List PyData → R PyData := runD 3 2 g_law_rest
def g_law_count : Sn := (gRet (dArg bLen (dCons (dLc (dItems (dVar 0)) (.nm 3) (dAsB (dTwo oEq (dTwo oIx (dVar 1) (dVar 3)) (dVar 2))) (dVar 3) [3]) dNil)))
def m_law_count : List PyData → R PyData := runD 4 3 g_law_count
def b_law_smooth_lots_1 : Sn := (gIf (dAsB (dArg bAll (dCons (dLc (dRng1 (dCons (dC (.int 3)) dNil)) (.nm 10) dYes (dTwo oLe (dArg m_law_count (dCons (dVar 6) (dCons (dVar 3) (dCons (dVar 10) dNil)))) (dTwo oIx (dVar 4) (dVar 10))) [10]) dNil))) (gApp 5 (dVar 6)) gSkip)
def g_law_smooth_lots : Sn := (gSeq (gSet (dArg m_law_draws (dCons (dVar 0) (dCons (dTwo oAdd (dC (.int 3)) (dVar 1)) dNil))) (.nm 2)) (gSeq (gSet (dLc (dRng1 (dCons (dVar 1) dNil)) (.nm 9) dYes (dTwo oMod (dArg bInt (dCons (dTwo oIx (dVar 2) (dTwo oAdd (dC (.int 3)) (dVar 9))) dNil)) (dC (.int 3))) [9]) (.nm 3)) (gSeq (gSet (dLst (dCons (dTwo oAdd (dC (.int 1)) (dTwo oMod (dArg bInt (dCons (dTwo oIx (dVar 2) (dC (.int 1))) dNil)) (dC (.int 2)))) (dCons (dTwo oAdd (dC (.int 1)) (dTwo oMod (dTwo oDiv (dArg bInt (dCons (dTwo oIx (dVar 2) (dC (.int 1))) dNil)) (dC (.int 2))) (dC (.int 2)))) (dCons (dTwo oMod (dTwo oDiv (dArg bInt (dCons (dTwo oIx (dVar 2) (dC (.int 1))) dNil)) (dC (.int 4))) (dC (.int 3))) dNil)))) (.nm 4)) (gSeq (gOwn (dLst dNil) 5) (gSeq (gFor (dItems (dArg m_law_parts_of (dCons (dVar 1) dNil))) (.nm 6) b_law_smooth_lots_1) (gFrz 5 (gSeq (gSet (dArg bMin2 (dCons (dArg bMax (dCons (dLc (dItems (dVar 5)) (.nm 6) dYes (dArg bLen (dCons (dVar 6) dNil)) [6]) dNil)) (dCons (dTwo oIx (dTup (dCons (dC (.int 2)) (dCons (dC (.int 1)) (dCons (dC (.int 2)) (dCons (dC (.int 3)) (dCons (dC (.int 2)) (dCons (dC (.int 1)) (dCons (dC (.int 3)) (dCons (dC (.int 0)) dNil))))))))) (dTwo oMod (dArg bInt (dCons (dTwo oIx (dVar 2) (dC (.int 0))) dNil)) (dC (.int 8)))) dNil))) (.nm 7)) (gSeq (gSet (dLc (dItems (dVar 5)) (.nm 6) (dAsB (dTwo oEq (dArg bLen (dCons (dVar 6) dNil)) (dVar 7))) (dVar 6) [6]) (.nm 8)) (gSeq (gIf (dAsB (dTwo oEq (dTwo oMod (dArg bInt (dCons (dTwo oIx (dVar 2) (dC (.int 2))) dNil)) (dC (.int 3))) (dC (.int 1)))) (gSet (dArg bSorted (dCons (dLc (dItems (dVar 8)) (.nm 6) dYes (dArg m_law_rest (dCons (dVar 6) (dCons (dVar 1) dNil))) [6]) dNil)) (.nm 8)) gSkip) (gRet (dArg bTuple (dCons (dVar 8) dNil))))))))))))
def m_law_smooth_lots : List PyData → R PyData := runD 11 2 g_law_smooth_lots
def g_leave_out : Sn := (gRet (dArg bTuple (dCons (dLc (dItems (dVar 0)) (.nm 2) (dAsB (dTwo oNe (dVar 2) (dVar 1))) (dVar 2) [2]) dNil)))
def m_leave_out : List PyData → R PyData := runD 3 2 g_leave_out
def g_law_is_integer : Sn := (gRet (dAndV (dOne (oIsi "int") (dVar 0)) (dNotV (dOne (oIsi "bool") (dVar 0)))))
def m_law_is_integer : List PyData → R PyData := runD 1 1 g_law_is_integer
def b_law_is_set_1 : Sn := (gSeq (gIf (dOr (dNot (dAsB (dArg m_law_is_integer (dCons (dTwo oIx (dVar 0) (dVar 2)) dNil)))) (dOr (dAsB (dTwo oLt (dTwo oIx (dVar 0) (dVar 2)) (dC (.int 0)))) (dAsB (dTwo oGe (dTwo oIx (dVar 0) (dVar 2)) (dVar 1))))) (gRet (dC (.bool false))) gSkip) (gIf (dAnd (dAsB (dTwo oGt (dVar 2) (dC (.int 0)))) (dAsB (dTwo oLe (dTwo oIx (dVar 0) (dVar 2)) (dTwo oIx (dVar 0) (dTwo oSub (dVar 2) (dC (.int 1))))))) (gRet (dC (.bool false))) gSkip))
def g_law_is_set : Sn := (gSeq (gIf (dNot (dAsB (dOne (oIsi "tuple") (dVar 0)))) (gRet (dC (.bool false))) gSkip) (gSeq (gFor (dRng1 (dCons (dArg bLen (dCons (dVar 0) dNil)) dNil)) (.nm 2) b_law_is_set_1) (gRet (dC (.bool true)))))
def m_law_is_set : List PyData → R PyData := runD 3 2 g_law_is_set
def g_known_lots : Sn := (gRet (dDc (dItems (dTwo oIx (dVar 0) (dC (.int 1)))) (.nm 1) dYes (dVar 1) [1]))
def m_known_lots : List PyData → R PyData := runD 2 1 g_known_lots
def g_difference : Sn := (gRet (dArg bTuple (dCons (dLc (dItems (dVar 0)) (.nm 2) (dAsB (dTwo oNotIn (dVar 2) (dVar 1))) (dVar 2) [2]) dNil)))
def m_difference : List PyData → R PyData := runD 3 2 g_difference
def g_things_missing : Sn := (gRet (dArg m_difference (dCons (dOne bTupR1 (dVar 0)) (dCons (dVar 1) dNil))))
def m_things_missing : List PyData → R PyData := runD 2 2 g_things_missing
def g_put_in : Sn := (gRet (dArg bTuple (dCons (dArg bSorted (dCons (dTwo oAdd (dVar 0) (dTup (dCons (dVar 1) dNil))) dNil)) dNil)))
def m_put_in : List PyData → R PyData := runD 2 2 g_put_in
def g_exchange : Sn := (gRet (dArg m_put_in (dCons (dArg m_leave_out (dCons (dVar 0) (dCons (dVar 1) dNil))) (dCons (dVar 2) dNil))))
def m_exchange : List PyData → R PyData := runD 3 3 g_exchange
def g_replacements : Sn := (gSeq (gSet (dArg m_things_missing (dCons (dTwo oIx (dVar 0) (dC (.int 0))) (dCons (dVar 2) dNil))) (.nm 4)) (gRet (dLc (dItems (dVar 4)) (.nm 5) (dAsB (dTwo oInT (dArg m_exchange (dCons (dVar 2) (dCons (dVar 3) (dCons (dVar 5) dNil)))) (dVar 1))) (dVar 5) [5])))
def m_replacements : List PyData → R PyData := runD 6 4 g_replacements
def g_law_rank : Sn := (gRet (dArg bMax (dCons (dLc (dItems (dVar 1)) (.nm 2) dYes (dArg bLen (dCons (dLc (dItems (dVar 2)) (.nm 3) (dAsB (dTwo oIn (dVar 3) (dVar 0))) (dVar 3) [3]) dNil)) [2]) dNil)))
def m_law_rank : List PyData → R PyData := runD 4 2 g_law_rank
end LW
set_option Elab.async false
set_option linter.all false
set_option maxRecDepth 100000
set_option maxHeartbeats 4000000
set_option Elab.async false
set_option linter.all false
set_option maxRecDepth 100000
set_option maxHeartbeats 4000000
set_option Elab.async false
set_option linter.all false
set_option maxRecDepth 100000
set_option maxHeartbeats 4000000
namespace LW
open PySem PySem.Spec PyProof.Rows L2 PD
def b_count_loads_1 : Sn := (gAugAt 3 (dVar 6) (dTwo oIx (dVar 4) (dC (.int 2))))
def b_count_loads_2 : Sn := (gFor (dItems (dVar 5)) (.nm 6) b_count_loads_1)
def g_count_loads : Sn := (gSeq (gOwn (dLc (dRng1 (dCons (dVar 0) dNil)) (.nm 7) dYes (dC (.int 0)) [7]) 3) (gSeq (gFor (dZip (dCons (dVar 1) (dCons (dVar 2) dNil))) (.tp [(.nm 4), (.nm 5)]) b_count_loads_2) (gFrz 3 (gRet (dArg bTuple (dCons (dVar 3) dNil))))))
def m_count_loads : List PyData → R PyData := runD 8 3 g_count_loads
def g_players : Sn := (gRet (dLc (dItems (dVar 0)) (.tp [(.nm 1), (.nm 2)]) dYes (dTup (dCons (dVar 1) (dCons (dVar 2) (dCons (dC (.int 1)) dNil)))) [1, 2]))
def m_players : List PyData → R PyData := runD 3 1 g_players
def g_loads : Sn := (gSeq (gSet (dIf (dAsB (dTwo oGt (dArg bLen (dCons (dVar 0) dNil)) (dC (.int 0)))) (dTwo oIx (dTwo oIx (dTwo oIx (dVar 0) (dC (.int 0))) (dC (.int 0))) (dC (.int 0))) (dC (.int 0))) (.nm 2)) (gRet (dArg m_count_loads (dCons (dVar 2) (dCons (dArg m_players (dCons (dVar 0) dNil)) (dCons (dVar 1) dNil))))))
def m_loads : List PyData → R PyData := runD 3 2 g_loads
def g_cost_at : Sn := (gRet (dTwo oIx (dTwo oIx (dVar 0) (dVar 1)) (dTwo oSub (dVar 2) (dC (.int 1)))))
def m_cost_at : List PyData → R PyData := runD 3 3 g_cost_at
def g_law_loads : Sn := (gRet (dLc (dRng1 (dCons (dVar 1) dNil)) (.nm 2) dYes (dArg bLen (dCons (dLc (dItems (dVar 0)) (.nm 3) (dAsB (dTwo oIn (dVar 2) (dVar 3))) (dVar 3) [3]) dNil)) [2]))
def m_law_loads : List PyData → R PyData := runD 4 2 g_law_loads
end LW
set_option Elab.async false
set_option linter.all false
set_option maxRecDepth 100000
set_option maxHeartbeats 4000000
set_option Elab.async false
set_option linter.all false
set_option maxRecDepth 100000
set_option maxHeartbeats 4000000
namespace LW
open PySem PySem.Spec PyProof.Rows L2 PD
def g_law_with : Sn := (gRet (dTwo oAdd (dTwo oAdd (dCut (dVar 0) dNoP (dPart (dVar 1))) (dTup (dCons (dVar 2) dNil))) (dCut (dVar 0) (dPart (dTwo oAdd (dVar 1) (dC (.int 1)))) dNoP)))
def m_law_with : List PyData → R PyData := runD 3 3 g_law_with
end LW
set_option Elab.async false
set_option linter.all false
set_option maxRecDepth 100000
set_option maxHeartbeats 4000000
set_option Elab.async false
set_option linter.all false
set_option maxRecDepth 100000
set_option maxHeartbeats 4000000
namespace LW
open PySem PySem.Spec PyProof.Rows L2 PD
def g_union : Sn := (gRet (dArg bTuple (dCons (dOne bSortSet (dTwo oAdd (dVar 0) (dVar 1))) dNil)))
def m_union : List PyData → R PyData := runD 2 2 g_union
end LW
set_option Elab.async false
set_option linter.all false
set_option maxRecDepth 100000
set_option maxHeartbeats 4000000
namespace LW
open PySem PySem.Spec PyProof.Rows L2 PD
def g_together : Sn := (gSeq (gSet (dSortSc2 (dItems (dTwo oIx (dVar 0) (dC (.int 1)))) (.nm 4) dYes (dItems (dTwo oIx (dVar 1) (dC (.int 1)))) (.nm 5) dYes (dArg m_union (dCons (dVar 4) (dCons (dVar 5) dNil))) [4, 5] [5]) (.nm 2)) (gSeq (gSet (dArg bMax (dCons (dLc (dItems (dVar 2)) (.nm 6) dYes (dArg bLen (dCons (dVar 6) dNil)) [6]) dNil)) (.nm 3)) (gRet (dTup (dCons (dTwo oIx (dVar 0) (dC (.int 0))) (dCons (dArg bTuple (dCons (dLc (dItems (dVar 2)) (.nm 6) (dAsB (dTwo oEq (dArg bLen (dCons (dVar 6) dNil)) (dVar 3))) (dVar 6) [6]) dNil)) dNil))))))
def m_together : List PyData → R PyData := runD 7 2 g_together
def g_things_in_a_lot : Sn := (gRet (dArg bLen (dCons (dTwo oIx (dTwo oIx (dVar 0) (dC (.int 1))) (dC (.int 0))) dNil)))
def m_things_in_a_lot : List PyData → R PyData := runD 1 1 g_things_in_a_lot
def g_spare : Sn := (gRet (dTwo oSub (dTwo oAdd (dArg m_things_in_a_lot (dCons (dVar 0) dNil)) (dArg m_things_in_a_lot (dCons (dVar 1) dNil))) (dArg m_things_in_a_lot (dCons (dArg m_together (dCons (dVar 0) (dCons (dVar 1) dNil))) dNil))))
def m_spare : List PyData → R PyData := runD 2 2 g_spare
end LW
set_option Elab.async false
set_option linter.all false
set_option maxRecDepth 100000
set_option maxHeartbeats 4000000
set_option Elab.async false
set_option linter.all false
set_option maxRecDepth 100000
set_option maxHeartbeats 4000000
set_option Elab.async false
set_option linter.all false
set_option maxRecDepth 100000
set_option maxHeartbeats 4000000
set_option Elab.async false
set_option linter.all false
set_option maxRecDepth 100000
set_option maxHeartbeats 4000000
namespace LW
open PySem PySem.Spec PyProof.Rows L2 PD
def g_with_lot : Sn := (gRet (dTwo oAdd (dTwo oAdd (dCut (dVar 0) dNoP (dPart (dVar 1))) (dTup (dCons (dVar 2) dNil))) (dCut (dVar 0) (dPart (dTwo oAdd (dVar 1) (dC (.int 1)))) dNoP)))
def m_with_lot : List PyData → R PyData := runD 3 3 g_with_lot
end LW
set_option Elab.async false
set_option linter.all false
set_option maxRecDepth 100000
set_option maxHeartbeats 4000000
namespace LW
open PySem PySem.Spec PyProof.Rows L2 PD
def b_law_offers_k50_1 : Sn := (gSeq (gApp 4 (dTup (dCons (dVar 2) (dCons (dArg m_law_smooth_lots (dCons (dArg m_law_cell (dCons (dVar 0) (dCons (dTwo oAdd (dVar 1) (dVar 5)) dNil))) (dCons (dVar 2) dNil))) dNil)))) (gIf (dAnd (dAsB (dTwo oGt (dVar 5) (dC (.int 0)))) (dAsB (dTwo oEq (dTwo oMod (dTwo oDiv (dArg bInt (dCons (dTwo oIx (dArg m_law_draws (dCons (dArg m_law_cell (dCons (dVar 0) (dCons (dTwo oAdd (dVar 1) (dVar 5)) dNil))) (dCons (dC (.int 1)) dNil))) (dC (.int 0))) dNil)) (dC (.int 8))) (dC (.int 4))) (dC (.int 1))))) (gSetAt 4 (dVar 5) (dOwnIx 4 (dC (.int 0)))) gSkip))
def g_law_offers_k50 : Sn := (gSeq (gOwn (dLst dNil) 4) (gSeq (gFor (dRng1 (dCons (dVar 3) dNil)) (.nm 5) b_law_offers_k50_1) (gFrz 4 (gRet (dArg bTuple (dCons (dVar 4) dNil))))))
def m_law_offers_k50 : List PyData → R PyData := runD 6 4 g_law_offers_k50
def g_exchanges_of : SO := (sSeq (sSet (oNewLL (oMaskI (dRng1 (dCons (dTwo oIx (dTwo oIx (dTwo oIx (dVar 0) (dC (.int 0))) (dC (.int 0))) (dC (.int 0))) dNil)))) (.nm 2)) (sSeq (sFor (oMaskI (dEnum (dCons (dVar 1) dNil))) (.tp [(.nm 3), (.nm 4)]) (sSeq (sSet (oMask (dTwo oIx (dTwo oIx (dVar 0) (dVar 3)) (dC (.int 0)))) (.nm 5)) (sSeq (sSet (oMask (dArg m_known_lots (dCons (dVar 5) dNil))) (.nm 6)) (sFor (oMaskI (dItems (dVar 4))) (.nm 7) (sExpr (oExt (oIxO (oVar 2) (oMask (dVar 7))) (oMask (dLc (dItems (dArg m_replacements (dCons (dVar 5) (dCons (dVar 6) (dCons (dVar 4) (dCons (dVar 7) dNil)))))) (.nm 9) dYes (dTup (dCons (dVar 3) (dCons (dVar 9) dNil))) [9])))))))) (sRet (oVar 2))))
def m_exchanges_of : List PyData → R PyData := pureO (runO 10 2 g_exchanges_of)
def b_steps_from_1 : Sn := (gIf (dAsB (dDkNin 2 (dVar 7))) (gSeq (gDkPut 2 (dVar 7) (dTup (dCons (dVar 6) (dCons (dVar 5) dNil)))) (gApp 4 (dVar 7))) gSkip)
def b_steps_from_2 : Sn := (gFor (dItems (dTwo oIx (dVar 0) (dVar 5))) (.tp [(.nm 6), (.nm 7)]) b_steps_from_1)
def b_steps_from_3 : Sn := (gSeq (gOwn (dLst dNil) 4) (gSeq (gFor (dItems (dVar 3)) (.nm 5) b_steps_from_2) (gFrz 4 (gSet (dVar 4) (.nm 3)))))
def g_steps_from : Sn := (gSeq (gDisp 2 [((dVar 1), (dC .none))]) (gSeq (gSet (dLst (dCons (dVar 1) dNil)) (.nm 3)) (gSeq (gWhile (dAsB (dTwo oGt (dArg bLen (dCons (dVar 3) dNil)) (dC (.int 0)))) b_steps_from_3 (fun _ => 1000000)) (gFrzK 2 (gRet (dVar 2))))))
def m_steps_from : List PyData → R PyData := runD 8 2 g_steps_from
def g_chains_of : Sn := (gSeq (gSet (dArg m_exchanges_of (dCons (dVar 0) (dCons (dVar 1) dNil))) (.nm 2)) (gRet (dDcK (dItems (dSortSc2I (dItems (dVar 1)) (.nm 4) dYes (dItems (dVar 4)) (.nm 5) dYes (dVar 5) [4, 5] [5])) (.nm 3) dYes (dVar 3) (dArg m_steps_from (dCons (dVar 2) (dCons (dVar 3) dNil))) [3])))
def m_chains_of : List PyData → R PyData := runD 6 2 g_chains_of
def b_behind_chain_1 : Sn := (gSeq (gSet (dTwo oDix (dVar 1) (dVar 4)) (.tp [(.nm 5), (.nm 6)])) (gSeq (gSet (dArg m_with_lot (dCons (dVar 3) (dCons (dVar 5) (dCons (dArg m_exchange (dCons (dTwo oIx (dVar 3) (dVar 5)) (dCons (dVar 6) (dCons (dVar 4) dNil)))) dNil)))) (.nm 3)) (gSet (dVar 6) (.nm 4))))
def g_behind_chain : Sn := (gSeq (gSet (dVar 0) (.nm 3)) (gSeq (gSet (dVar 2) (.nm 4)) (gSeq (gWhile (dAsB (dOne (fun d => .ok (.bool (!isNone d))) (dTwo oDix (dVar 1) (dVar 4)))) b_behind_chain_1 (fun _ => 1000000)) (gRet (dVar 3)))))
def m_behind_chain : List PyData → R PyData := runD 7 3 g_behind_chain
def g_lessened : Sn := (gSeq (gSet (dTwo oIx (dTwo oIx (dVar 0) (dC (.int 0))) (dC (.int 1))) (.nm 2)) (gSeq (gSet (dArg m_loads (dCons (dVar 0) (dCons (dVar 1) dNil))) (.nm 3)) (gSeq (gSet (dArg m_chains_of (dCons (dVar 0) (dCons (dVar 1) dNil))) (.nm 4)) (gSeq (gSet (dLc2 (dKeysK (dVar 4)) (.nm 9) dYes (dKeysK (dTwo oDix (dVar 4) (dVar 9))) (.nm 10) (dAsB (dTwo oNe (dVar 10) (dVar 9))) (dTup (dCons (dTwo oSub (dArg m_cost_at (dCons (dVar 2) (dCons (dVar 10) (dCons (dTwo oAdd (dTwo oIx (dVar 3) (dVar 10)) (dC (.int 1))) dNil)))) (dArg m_cost_at (dCons (dVar 2) (dCons (dVar 9) (dCons (dTwo oIx (dVar 3) (dVar 9)) dNil))))) (dCons (dVar 9) (dCons (dVar 10) dNil)))) [9, 10] [10]) (.nm 5)) (gSeq (gSet (dTwo bMinDf (dVar 5) (dTup (dCons (dC (.int 0)) (dCons (dC (.int 0)) (dCons (dC (.int 0)) dNil))))) (.tp [(.nm 6), (.nm 7), (.nm 8)])) (gRet (dIf (dAsB (dTwo oLt (dVar 6) (dC (.int 0)))) (dArg m_behind_chain (dCons (dVar 1) (dCons (dTwo oDix (dVar 4) (dVar 7)) (dCons (dVar 8) dNil)))) (dC .none))))))))
def m_lessened : List PyData → R PyData := runD 11 2 g_lessened
def b_least_from_1 : Sn := (gSeq (gSet (dVar 3) (.nm 2)) (gSet (dArg m_lessened (dCons (dVar 0) (dCons (dVar 2) dNil))) (.nm 3)))
def g_least_from : Sn := (gSeq (gSet (dVar 1) (.nm 2)) (gSeq (gSet (dArg m_lessened (dCons (dVar 0) (dCons (dVar 2) dNil))) (.nm 3)) (gSeq (gWhile (dAsB (dOne (fun d => .ok (.bool (!isNone d))) (dVar 3))) b_least_from_1 (fun _ => 1000000)) (gRet (dVar 2)))))
def m_least_from : List PyData → R PyData := runD 4 2 g_least_from
def g_limited_game : Sn := (gSeq (gSet (dArg bTuple (dCons (dLc (dRng2 (dCons (dC (.int 1)) (dCons (dTwo oAdd (dArg bLen (dCons (dVar 0) dNil)) (dC (.int 1))) dNil))) (.nm 4) dYes (dIf (dAsB (dTwo oLe (dVar 4) (dVar 1))) (dC (.int 0)) (dC (.int 1))) [4]) dNil)) (.nm 2)) (gSeq (gSet (dArg bTuple (dCons (dLc (dRng1 (dCons (dTwo oIx (dTwo oIx (dVar 0) (dC (.int 0))) (dC (.int 0))) dNil)) (.nm 5) dYes (dVar 2) [5]) dNil)) (.nm 3)) (gRet (dArg bTuple (dCons (dLc (dItems (dVar 0)) (.nm 6) dYes (dTup (dCons (dVar 6) (dCons (dVar 3) dNil))) [6]) dNil)))))
def m_limited_game : List PyData → R PyData := runD 7 2 g_limited_game
def g_least_crowded : Sn := (gRet (dArg m_least_from (dCons (dArg m_limited_game (dCons (dVar 0) (dCons (dVar 1) dNil))) (dCons (dVar 2) dNil))))
def m_least_crowded : List PyData → R PyData := runD 3 3 g_least_crowded
def g_first_lots : Sn := (gRet (dArg bTuple (dCons (dLc (dItems (dVar 0)) (.tp [(.nm 1), (.nm 2)]) dYes (dTwo oIx (dVar 2) (dC (.int 0))) [1, 2]) dNil)))
def m_first_lots : List PyData → R PyData := runD 3 1 g_first_lots
def g_bar_behind : Sn := (gSeq (gSet (dArg m_limited_game (dCons (dVar 0) (dCons (dVar 1) dNil))) (.nm 3)) (gSeq (gSet (dArg m_chains_of (dCons (dVar 3) (dCons (dVar 2) dNil))) (.nm 4)) (gSeq (gSet (dLc (dEnum (dCons (dArg m_loads (dCons (dVar 3) (dCons (dVar 2) dNil))) dNil)) (.tp [(.nm 7), (.nm 8)]) (dAsB (dTwo oGt (dVar 8) (dVar 1))) (dVar 7) [7, 8]) (.nm 5)) (gSeq (gIf (dAsB (dTwo oEq (dArg bLen (dCons (dVar 5) dNil)) (dC (.int 0)))) (gRet (dC .none)) gSkip) (gSeq (gSet (dLc2 (dItems (dVar 5)) (.nm 9) dYes (dKeysK (dTwo oDix (dVar 4) (dVar 9))) (.nm 7) dYes (dVar 7) [9, 7] [7]) (.nm 6)) (gRet (dArg m_difference (dCons (dOne bTupR1 (dTwo oIx (dTwo oIx (dVar 0) (dC (.int 0))) (dC (.int 0)))) (dCons (dVar 6) dNil)))))))))
def m_bar_behind : List PyData → R PyData := runD 10 3 g_bar_behind
def g_apart : Sn := (gSeq (gSet (dArg m_least_crowded (dCons (dVar 0) (dCons (dVar 1) (dCons (dArg m_first_lots (dCons (dVar 0) dNil)) dNil)))) (.nm 2)) (gRet (dIf (dAsB (dOne (fun d => .ok (.bool (isNone d))) (dArg m_bar_behind (dCons (dVar 0) (dCons (dVar 1) (dCons (dVar 2) dNil)))))) (dVar 2) (dC .none))))
def m_apart : List PyData → R PyData := runD 3 2 g_apart
def b_law_is_apart_1 : Sn := (gIf (dOr (dNot (dAsB (dArg m_law_is_set (dCons (dTwo oIx (dVar 0) (dVar 3)) (dCons (dTwo oIx (dTwo oIx (dVar 1) (dVar 3)) (dC (.int 0))) dNil))))) (dAsB (dTwo oNotIn (dTwo oIx (dVar 0) (dVar 3)) (dTwo oIx (dTwo oIx (dVar 1) (dVar 3)) (dC (.int 1)))))) (gRet (dC (.bool false))) gSkip)
def g_law_is_apart : Sn := (gSeq (gIf (dOr (dNot (dAsB (dOne (oIsi "tuple") (dVar 0)))) (dAsB (dTwo oNe (dArg bLen (dCons (dVar 0) dNil)) (dArg bLen (dCons (dVar 1) dNil))))) (gRet (dC (.bool false))) gSkip) (gSeq (gFor (dRng1 (dCons (dArg bLen (dCons (dVar 1) dNil)) dNil)) (.nm 3) b_law_is_apart_1) (gRet (dArg bAll (dCons (dLc (dItems (dArg m_law_loads (dCons (dVar 0) (dCons (dTwo oIx (dTwo oIx (dVar 1) (dC (.int 0))) (dC (.int 0))) dNil)))) (.nm 4) dYes (dTwo oLe (dVar 4) (dVar 2)) [4]) dNil)))))
def m_law_is_apart : List PyData → R PyData := runD 5 3 g_law_is_apart
end LW
set_option Elab.async false
set_option linter.all false
set_option maxRecDepth 100000
set_option maxHeartbeats 4000000
namespace LW
open PySem PySem.Spec PyProof.Rows L2 PD
def g_bar : Sn := (gRet (dArg m_bar_behind (dCons (dVar 0) (dCons (dVar 1) (dCons (dArg m_least_crowded (dCons (dVar 0) (dCons (dVar 1) (dCons (dArg m_first_lots (dCons (dVar 0) dNil)) dNil)))) dNil)))))
def m_bar : List PyData → R PyData := runD 2 2 g_bar
def g_law_bars : Sn := (gSeq (gSet (dTwo oMul (dVar 1) (dTwo oSub (dTwo oIx (dTwo oIx (dVar 0) (dC (.int 0))) (dC (.int 0))) (dArg bLen (dCons (dVar 2) dNil)))) (.nm 3)) (gSeq (gSet (dArg bSum (dCons (dLc (dItems (dVar 0)) (.nm 5) dYes (dArg m_law_rank (dCons (dVar 2) (dCons (dTwo oIx (dVar 5) (dC (.int 1))) dNil))) [5]) dNil)) (.nm 4)) (gRet (dTwo oLt (dTwo oAdd (dVar 3) (dVar 4)) (dArg bSum (dCons (dLc (dItems (dVar 0)) (.nm 5) dYes (dArg bLen (dCons (dTwo oIx (dTwo oIx (dVar 5) (dC (.int 1))) (dC (.int 0))) dNil)) [5]) dNil))))))
def m_law_bars : List PyData → R PyData := runD 6 3 g_law_bars
end LW
set_option Elab.async false
set_option linter.all false
set_option maxRecDepth 100000
set_option maxHeartbeats 4000000
namespace LW
open PySem PySem.Spec PyProof.Rows L2 PD
def g_law_side : Sn := (gSeq (gIf (dAsB (dVar 2)) (gSeq (gSet (dArg m_bar (dCons (dVar 0) (dCons (dVar 1) dNil))) (.nm 3)) (gSet (dArg m_apart (dCons (dVar 0) (dCons (dVar 1) dNil))) (.nm 4))) (gSeq (gSet (dArg m_apart (dCons (dVar 0) (dCons (dVar 1) dNil))) (.nm 4)) (gSet (dArg m_bar (dCons (dVar 0) (dCons (dVar 1) dNil))) (.nm 3)))) (gSeq (gIf (dAnd (dAsB (dOne (fun d => .ok (.bool (isNone d))) (dVar 3))) (dAnd (dAsB (dOne (fun d => .ok (.bool (!isNone d))) (dVar 4))) (dAsB (dArg m_law_is_apart (dCons (dVar 4) (dCons (dVar 0) (dCons (dVar 1) dNil))))))) (gRet (dC (.str "apart"))) gSkip) (gSeq (gIf (dAnd (dAsB (dOne (fun d => .ok (.bool (isNone d))) (dVar 4))) (dAnd (dAsB (dOne (fun d => .ok (.bool (!isNone d))) (dVar 3))) (dAsB (dArg m_law_is_set (dCons (dVar 3) (dCons (dTwo oIx (dTwo oIx (dVar 0) (dC (.int 0))) (dC (.int 0))) dNil)))))) (gIf (dAsB (dArg m_law_bars (dCons (dVar 0) (dCons (dVar 1) (dCons (dVar 3) dNil))))) (gRet (dC (.str "barred"))) gSkip) gSkip) (gRet (dC (.str "neither"))))))
def m_law_side : List PyData → R PyData := runD 5 3 g_law_side
def g_law_k52 : Sn := (gSeq (gSet (dArg m_law_draws (dCons (dArg m_law_cell (dCons (dVar 0) (dCons (dC (.int 0)) dNil))) (dCons (dC (.int 4)) dNil))) (.nm 1)) (gSeq (gSet (dTwo oIx (dTup (dCons (dC (.int 3)) (dCons (dC (.int 4)) (dCons (dC (.int 2)) (dCons (dC (.int 5)) (dCons (dC (.int 3)) (dCons (dC (.int 6)) (dCons (dC (.int 2)) (dCons (dC (.int 1)) dNil))))))))) (dTwo oMod (dArg bInt (dCons (dTwo oIx (dVar 1) (dC (.int 0))) dNil)) (dC (.int 8)))) (.nm 2)) (gSeq (gSet (dTwo oIx (dTup (dCons (dC (.int 4)) (dCons (dC (.int 5)) (dCons (dC (.int 6)) (dCons (dC (.int 3)) (dCons (dC (.int 4)) (dCons (dC (.int 5)) (dCons (dC (.int 2)) (dCons (dC (.int 0)) dNil))))))))) (dTwo oMod (dArg bInt (dCons (dTwo oIx (dVar 1) (dC (.int 1))) dNil)) (dC (.int 8)))) (.nm 3)) (gSeq (gSet (dTwo oIx (dTup (dCons (dC (.int 1)) (dCons (dC (.int 2)) (dCons (dC (.int 1)) (dCons (dC (.int 3)) (dCons (dC (.int 2)) (dCons (dC (.int 4)) (dCons (dC (.int 1)) (dCons (dC (.int 0)) dNil))))))))) (dTwo oMod (dArg bInt (dCons (dTwo oIx (dVar 1) (dC (.int 2))) dNil)) (dC (.int 8)))) (.nm 4)) (gSeq (gSet (dTwo oEq (dTwo oMod (dArg bInt (dCons (dTwo oIx (dVar 1) (dC (.int 3))) dNil)) (dC (.int 2))) (dC (.int 1))) (.nm 5)) (gSeq (gSet (dArg m_law_offers_k50 (dCons (dVar 0) (dCons (dC (.int 1)) (dCons (dVar 3) (dCons (dVar 2) dNil))))) (.nm 6)) (gSeq (gSet (dArg m_law_side (dCons (dVar 6) (dCons (dVar 4) (dCons (dVar 5) dNil)))) (.nm 7)) (gSeq (gIf (dOr (dAsB (dTwo oEq (dVar 7) (dC (.str "neither")))) (dAsB (dTwo oNe (dArg m_law_side (dCons (dVar 6) (dCons (dVar 2) (dCons (dVar 5) dNil)))) (dC (.str "apart"))))) (gRet (dC (.bool false))) gSkip) (gSeq (gIf (dAnd (dAsB (dTwo oEq (dVar 7) (dC (.str "apart")))) (dAsB (dTwo oNe (dArg m_law_side (dCons (dVar 6) (dCons (dTwo oAdd (dVar 4) (dC (.int 1))) (dCons (dVar 5) dNil)))) (dC (.str "apart"))))) (gRet (dC (.bool false))) gSkip) (gSeq (gIf (dAnd (dAsB (dTwo oEq (dVar 7) (dC (.str "barred")))) (dAnd (dAsB (dTwo oGt (dVar 4) (dC (.int 0)))) (dAsB (dTwo oNe (dArg m_law_side (dCons (dVar 6) (dCons (dTwo oSub (dVar 4) (dC (.int 1))) (dCons (dVar 5) dNil)))) (dC (.str "barred")))))) (gRet (dC (.bool false))) gSkip) (gSeq (gIf (dAsB (dTwo oEq (dVar 2) (dC (.int 1)))) (gRet (dC (.bool true))) gSkip) (gSeq (gSet (dArg m_spare (dCons (dTwo oIx (dVar 6) (dC (.int 0))) (dCons (dTwo oIx (dVar 6) (dC (.int 1))) dNil))) (.nm 8)) (gSeq (gIf (dNot (dAsB (dArg m_law_is_integer (dCons (dVar 8) dNil)))) (gRet (dC (.bool false))) gSkip) (gRet (dTwo oEq (dTwo oEq (dArg m_law_side (dCons (dCut (dVar 6) dNoP (dPart (dC (.int 2)))) (dCons (dC (.int 1)) (dCons (dVar 5) dNil)))) (dC (.str "apart"))) (dTwo oEq (dVar 8) (dC (.int 0))))))))))))))))))
def m_law_k52 : List PyData → R PyData := runD 9 1 g_law_k52
end LW
set_option Elab.async false
set_option linter.all false
set_option maxRecDepth 100000
set_option maxHeartbeats 4000000
namespace LW
open PySem PySem.Spec PyProof.Rows L2 PD
section
variable {P : Program} {w : World} {K : PySem.W.Frag} {mg : Str → Option Value} {base : Heap} {Tb : List Addr}
def topS (i : Nat) : Stmt := PySem.Challenge.pw_takersrest_k52_whole_apart_or_bar.main.body.getD i (.Pass ⟨0, 0, 0, 0⟩)
abbrev s_law_draws : Stmt := topS 38
theorem sc_law_draws : FnScope ["cell", "count", "rest", "digits", "seed", "draws", "k", "mixed"] ["cell", "count"] (defScope s_law_draws) := ⟨rfl, rfl, rfl, by decide +kernel, rfl, by decide +kernel, by decide +kernel⟩
theorem ok_law_draws {a : Addr} {fd : FuncData} (F : Fun K "_law_draws" "_law_draws" s_law_draws a fd) (hg : mg "_law_draws" = some (.ref a)) (hb : Binds K fd ["cell", "count"] []) (B : Bi mg) : FnD P w K mg base Tb "_law_draws" 1 m_law_draws := ⟨a, fd, ["cell", "count"], fn_okD F sc_law_draws fun cdv A outer s H E hr => 
  (fs_cons (fs_set (i := 2) sc_law_draws.nd rfl (.inl rfl) (e_abs B (fa_cons (e_int B (fa_cons (fd_var 0) fa_nil)) fa_nil))) (fs_cons (fs_set (i := 3) sc_law_draws.nd rfl (.inl rfl) (e_ge (fd_var 2) (fd_pow fd_int fd_int))) (fs_cons (fs_set (i := 4) sc_law_draws.nd rfl (.inl rfl) (fd_var 2)) (fs_cons (fs_own (i := 5) sc_law_draws.nd rfl (.inl rfl) (fn_lst fa_nil)) (fs_cons (fs_for (passes_of rfl) rfl (fi_rng1 (by rfl) B.range (fa_cons (fd_var 1) fa_nil)) (fg_nm (i := 6) sc_law_draws.nd rfl (.inl rfl)) (fs_one (fs_if (PW.pt (fw_and (ft_val (fd_var 3)) (fw_and1 (t_gt (fd_var 2) fd_int)))) (fs_cons (fs_app (i := 5) rfl (.inl rfl) (by decide) (by decide) (fd_mod (e_int B (fa_cons (fd_var 2) fa_nil)) fd_int) rfl rfl rfl rfl rfl rfl) (fs_one (fs_set (i := 2) sc_law_draws.nd rfl (.inl rfl) (fd_div (fd_var 2) fd_int)))) (fs_cons (fs_set (i := 7) sc_law_draws.nd rfl (.inl rfl) (fd_mod (e_int B (fa_cons (fd_add (fd_add (fd_mul (fd_var 4) fd_int) (fd_mul (fd_add (fd_var 6) fd_int) fd_int)) fd_int) fa_nil)) fd_int)) (fs_cons (fs_set (i := 7) sc_law_draws.nd rfl (.inl rfl) (fd_mod (e_int B (fa_cons (fd_add (fd_mul (fd_var 7) (fd_var 7)) (fd_mul fd_int (fd_add (fd_var 6) fd_int))) fa_nil)) fd_int)) (fs_one (fs_app (i := 5) rfl (.inl rfl) (by decide) (by decide) (fd_mod (e_int B (fa_cons (fd_div (fd_var 7) fd_int) fa_nil)) fd_int) rfl rfl rfl rfl rfl rfl))))))) (fs_frz 5 (fs_one (fs_ret (fd_var 5))))))))), hg, F.kp, hb⟩
abbrev s_law_parts_of : Stmt := topS 41
theorem sc_law_parts_of : FnScope ["size", "rows", "thing", "row"] ["size"] (defScope s_law_parts_of) := ⟨rfl, rfl, rfl, by decide +kernel, rfl, by decide +kernel, by decide +kernel⟩
theorem ok_law_parts_of {a : Addr} {fd : FuncData} (F : Fun K "_law_parts_of" "_law_parts_of" s_law_parts_of a fd) (hg : mg "_law_parts_of" = some (.ref a)) (hb : Binds K fd ["size"] []) (B : Bi mg) : FnD P w K mg base Tb "_law_parts_of" 1 m_law_parts_of := ⟨a, fd, ["size"], fn_okD F sc_law_parts_of fun cdv A outer s H E hr => 
  (fs_cons (fs_set (i := 1) sc_law_parts_of.nd rfl (.inl rfl) (fd_lst (fa_cons (fd_tup fa_nil) fa_nil))) (fs_cons (fs_for (passes_of rfl) rfl (fi_rng1 (by rfl) B.range (fa_cons (fd_var 0) fa_nil)) (fg_nm (i := 2) sc_law_parts_of.nd rfl (.inr rfl)) (fs_one (fs_set (i := 1) sc_law_parts_of.nd rfl (.inl rfl) (fd_add (fd_var 1) (fd_lc rfl sc_law_parts_of.nd (fi_seq (fd_var 1)) (own := [("row", 3)]) (blkOk_by (by rfl)) (fun _ _ _ _ _ => (fg_nm (i := 3) sc_law_parts_of.nd rfl (.inl rfl))) (fun _ _ _ _ _ => ft_yes) (fun _ _ _ _ _ => (fd_add (fd_var 3) (fd_tup (fa_cons (fd_var 2) fa_nil))))))))) (fs_one (fs_ret (e_sorted B hr (fa_cons (fd_var 1) fa_nil)))))), hg, F.kp, hb⟩
abbrev s_law_rest : Stmt := topS 43
theorem sc_law_rest : FnScope ["row", "size", "thing"] ["row", "size"] (defScope s_law_rest) := ⟨rfl, rfl, rfl, by decide +kernel, rfl, by decide +kernel, by decide +kernel⟩
theorem ok_law_rest {a : Addr} {fd : FuncData} (F : Fun K "_law_rest" "_law_rest" s_law_rest a fd) (hg : mg "_law_rest" = some (.ref a)) (hb : Binds K fd ["row", "size"] []) (B : Bi mg) : FnD P w K mg base Tb "_law_rest" 1 m_law_rest := ⟨a, fd, ["row", "size"], fn_okD F sc_law_rest fun cdv A outer s H E hr => 
  (fs_one (fs_ret (e_tuple B (fa_cons (fd_lc rfl sc_law_rest.nd (fi_rng1 (by rfl) B.range (fa_cons (fd_var 1) fa_nil)) (own := [("thing", 2)]) (blkOk_by (by rfl)) (fun _ _ _ _ _ => (fg_nm (i := 2) sc_law_rest.nd rfl (.inl rfl))) (fun _ _ _ _ _ => (ft_one (t_notin hr (fd_var 2) (fd_var 0)))) (fun _ _ _ _ _ => (fd_var 2))) fa_nil)))), hg, F.kp, hb⟩
abbrev s_law_count : Stmt := topS 42
theorem sc_law_count : FnScope ["row", "classes", "c", "thing"] ["row", "classes", "c"] (defScope s_law_count) := ⟨rfl, rfl, rfl, by decide +kernel, rfl, by decide +kernel, by decide +kernel⟩
theorem ok_law_count {a : Addr} {fd : FuncData} (F : Fun K "_law_count" "_law_count" s_law_count a fd) (hg : mg "_law_count" = some (.ref a)) (hb : Binds K fd ["row", "classes", "c"] []) (B : Bi mg) : FnD P w K mg base Tb "_law_count" 1 m_law_count := ⟨a, fd, ["row", "classes", "c"], fn_okD F sc_law_count fun cdv A outer s H E hr => 
  (fs_one (fs_ret (e_len B (fa_cons (fd_lc rfl sc_law_count.nd (fi_seq (fd_var 0)) (own := [("thing", 3)]) (blkOk_by (by rfl)) (fun _ _ _ _ _ => (fg_nm (i := 3) sc_law_count.nd rfl (.inl rfl))) (fun _ _ _ _ _ => (ft_one (t_eq hr (e_ix (fd_var 1) (fd_var 3)) (fd_var 2)))) (fun _ _ _ _ _ => (fd_var 3))) fa_nil)))), hg, F.kp, hb⟩
abbrev s_law_smooth_lots : Stmt := topS 44
theorem sc_law_smooth_lots : FnScope ["cell", "size", "draws", "classes", "bounds", "rows", "row", "count", "lots", "thing", "c"] ["cell", "size"] (defScope s_law_smooth_lots) := ⟨rfl, rfl, rfl, by decide +kernel, rfl, by decide +kernel, by decide +kernel⟩
theorem ok_law_smooth_lots {a : Addr} {fd : FuncData} (F : Fun K "_law_smooth_lots" "_law_smooth_lots" s_law_smooth_lots a fd) (D_law_draws : FnD P w K mg base Tb "_law_draws" 1 m_law_draws) (D_law_parts_of : FnD P w K mg base Tb "_law_parts_of" 1 m_law_parts_of) (D_law_rest : FnD P w K mg base Tb "_law_rest" 1 m_law_rest) (D_law_count : FnD P w K mg base Tb "_law_count" 1 m_law_count) (hg : mg "_law_smooth_lots" = some (.ref a)) (hb : Binds K fd ["cell", "size"] []) (B : Bi mg) : FnD P w K mg base Tb "_law_smooth_lots" 2 m_law_smooth_lots := ⟨a, fd, ["cell", "size"], fn_okD F sc_law_smooth_lots fun cdv A outer s H E hr => 
  (fs_cons (fs_set (i := 2) sc_law_smooth_lots.nd rfl (.inr rfl) (e_call D_law_draws (fun σ => lets_of (L2N.takes_of rfl rfl rfl rfl) σ) hr (fa_cons (fd_var 0) (fa_cons (fd_add fd_int (fd_var 1)) fa_nil)))) (fs_cons (fs_set (i := 3) sc_law_smooth_lots.nd rfl (.inr rfl) (fd_lc rfl sc_law_smooth_lots.nd (fi_rng1 (by rfl) B.range (fa_cons (fd_var 1) fa_nil)) (own := [("thing", 9)]) (blkOk_by (by rfl)) (fun _ _ _ _ _ => (fg_nm (i := 9) sc_law_smooth_lots.nd rfl (.inl rfl))) (fun _ _ _ _ _ => ft_yes) (fun _ _ _ _ _ => (fd_mod (e_int B (fa_cons (e_ix (fd_var 2) (fd_add fd_int (fd_var 9))) fa_nil)) fd_int)))) (fs_cons (fs_set (i := 4) sc_law_smooth_lots.nd rfl (.inr rfl) (fd_lst (fa_cons (fd_add fd_int (fd_mod (e_int B (fa_cons (e_ix (fd_var 2) fd_int) fa_nil)) fd_int)) (fa_cons (fd_add fd_int (fd_mod (fd_div (e_int B (fa_cons (e_ix (fd_var 2) fd_int) fa_nil)) fd_int) fd_int)) (fa_cons (fd_mod (fd_div (e_int B (fa_cons (e_ix (fd_var 2) fd_int) fa_nil)) fd_int) fd_int) fa_nil))))) (fs_cons (fs_own (i := 5) sc_law_smooth_lots.nd rfl (.inl rfl) (fn_lst fa_nil)) (fs_cons (fs_for (passes_of rfl) rfl (fi_seq (e_call D_law_parts_of (fun σ => lets_of (L2N.takes_of rfl rfl rfl rfl) σ) hr (fa_cons (fd_var 1) fa_nil))) (fg_nm (i := 6) sc_law_smooth_lots.nd rfl (.inr rfl)) (fs_one (fs_if (ft_val (e_all B (fa_cons (fd_lc rfl sc_law_smooth_lots.nd (fi_rng1 (by rfl) B.range (fa_cons fd_int fa_nil)) (own := [("c", 10)]) (blkOk_by (by rfl)) (fun _ _ _ _ _ => (fg_nm (i := 10) sc_law_smooth_lots.nd rfl (.inl rfl))) (fun _ _ _ _ _ => ft_yes) (fun _ _ _ _ _ => (e_le (e_call D_law_count (fun σ => lets0 σ) hr (fa_cons (fd_var 6) (fa_cons (fd_var 3) (fa_cons (fd_var 10) fa_nil)))) (e_ix (fd_var 4) (fd_var 10))))) fa_nil))) (fs_one (fs_app (i := 5) rfl (.inl rfl) (by decide) (by decide) (fd_var 6) rfl rfl rfl rfl rfl rfl)) fs_nil))) (fs_frz 5 (fs_cons (fs_set (i := 7) sc_law_smooth_lots.nd rfl (.inr rfl) (e_min2 B (fa_cons (e_max B (fa_cons (fd_lc rfl sc_law_smooth_lots.nd (fi_seq (fd_var 5)) (own := [("row", 6)]) (blkOk_by (by rfl)) (fun _ _ _ _ _ => (fg_nm (i := 6) sc_law_smooth_lots.nd rfl (.inl rfl))) (fun _ _ _ _ _ => ft_yes) (fun _ _ _ _ _ => (e_len B (fa_cons (fd_var 6) fa_nil)))) fa_nil)) (fa_cons (e_ix (fd_tup (fa_cons fd_int (fa_cons fd_int (fa_cons fd_int (fa_cons fd_int (fa_cons fd_int (fa_cons fd_int (fa_cons fd_int (fa_cons fd_int fa_nil))))))))) (fd_mod (e_int B (fa_cons (e_ix (fd_var 2) fd_int) fa_nil)) fd_int)) fa_nil)))) (fs_cons (fs_setLc (i := 8) rfl sc_law_smooth_lots.nd rfl rfl (by rfl) (fi_seq (fd_var 5)) (own := [("row", 6)]) (blkOk_by (by rfl)) (fun _ _ _ _ _ => (fg_nm (i := 6) sc_law_smooth_lots.nd rfl (.inl rfl))) (fun _ _ _ _ _ => (ft_one (t_eq hr (e_len B (fa_cons (fd_var 6) fa_nil)) (fd_var 7)))) (fun _ _ _ _ _ => (fd_var 6))) (fs_cons (fs_if (t_eq hr (fd_mod (e_int B (fa_cons (e_ix (fd_var 2) fd_int) fa_nil)) fd_int) fd_int) (fs_one (fs_set (i := 8) sc_law_smooth_lots.nd rfl (.inl rfl) (e_sorted B hr (fa_cons (fd_lc rfl sc_law_smooth_lots.nd (fi_seq (fd_var 8)) (own := [("row", 6)]) (blkOk_by (by rfl)) (fun _ _ _ _ _ => (fg_nm (i := 6) sc_law_smooth_lots.nd rfl (.inl rfl))) (fun _ _ _ _ _ => ft_yes) (fun _ _ _ _ _ => (e_call D_law_rest (fun σ => lets0 σ) hr (fa_cons (fd_var 6) (fa_cons (fd_var 1) fa_nil))))) fa_nil)))) fs_nil) (fs_one (fs_ret (e_tuple B (fa_cons (fd_var 8) fa_nil))))))))))))), hg, F.kp, hb⟩
abbrev s_law_cell : Stmt := topS 37
theorem sc_law_cell : FnScope ["script", "k"] ["script", "k"] (defScope s_law_cell) := ⟨rfl, rfl, rfl, by decide +kernel, rfl, by decide +kernel, by decide +kernel⟩
theorem ok_law_cell {a : Addr} {fd : FuncData} (F : Fun K "_law_cell" "_law_cell" s_law_cell a fd) (hg : mg "_law_cell" = some (.ref a)) (hb : Binds K fd ["script", "k"] []) (B : Bi mg) : FnD P w K mg base Tb "_law_cell" 1 m_law_cell := ⟨a, fd, ["script", "k"], fn_okD F sc_law_cell fun cdv A outer s H E hr => 
  (fs_cons (fs_if (t_lt (fd_var 1) (e_len B (fa_cons (fd_var 0) fa_nil))) (fs_one (fs_ret (e_ix (fd_var 0) (fd_var 1)))) fs_nil) (fs_one (fs_ret (fd_add (fd_mul fd_int (fd_var 1)) fd_int)))), hg, F.kp, hb⟩
abbrev s_law_offers : Stmt := topS 47
theorem sc_law_offers : FnScope ["script", "first", "size", "count", "offers", "k"] ["script", "first", "size", "count"] (defScope s_law_offers) := ⟨rfl, rfl, rfl, by decide +kernel, rfl, by decide +kernel, by decide +kernel⟩
theorem ok_law_offers {a : Addr} {fd : FuncData} (F : Fun K "_law_offers" "_law_offers" s_law_offers a fd) (D_law_smooth_lots : FnD P w K mg base Tb "_law_smooth_lots" 2 m_law_smooth_lots) (D_law_cell : FnD P w K mg base Tb "_law_cell" 1 m_law_cell) (D_law_draws : FnD P w K mg base Tb "_law_draws" 1 m_law_draws) (hg : mg "_law_offers" = some (.ref a)) (hb : Binds K fd ["script", "first", "size", "count"] []) (B : Bi mg) : FnD P w K mg base Tb "_law_offers" 3 m_law_offers_k50 := ⟨a, fd, ["script", "first", "size", "count"], fn_okD F sc_law_offers fun cdv A outer s H E hr => 
  (fs_cons (fs_own (i := 4) sc_law_offers.nd rfl (.inl rfl) (fn_lst fa_nil)) (fs_cons (fs_for (passes_of rfl) rfl (fi_rng1 (by rfl) B.range (fa_cons (fd_var 3) fa_nil)) (fg_nm (i := 5) sc_law_offers.nd rfl (.inl rfl)) (fs_cons (fs_app (i := 4) rfl (.inl rfl) (by decide) (by decide) (fd_tup (fa_cons (fd_var 2) (fa_cons (e_call D_law_smooth_lots (fun σ => lets_of (L2N.takes_of rfl rfl rfl rfl) σ) hr (fa_cons (e_call D_law_cell (fun σ => lets_of (L2N.takes_of rfl rfl rfl rfl) σ) hr (fa_cons (fd_var 0) (fa_cons (fd_add (fd_var 1) (fd_var 5)) fa_nil))) (fa_cons (fd_var 2) fa_nil))) fa_nil))) rfl rfl rfl rfl rfl rfl) (fs_one (fs_if (PW.pt (fw_and (t_gt (fd_var 5) fd_int) (fw_and1 (t_eq hr (fd_mod (fd_div (e_int B (fa_cons (e_ix (e_call D_law_draws (fun σ => lets_of (L2N.takes_of rfl rfl rfl rfl) σ) hr (fa_cons (e_call D_law_cell (fun σ => lets_of (L2N.takes_of rfl rfl rfl rfl) σ) hr (fa_cons (fd_var 0) (fa_cons (fd_add (fd_var 1) (fd_var 5)) fa_nil))) (fa_cons fd_int fa_nil))) fd_int) fa_nil)) fd_int) fd_int) fd_int)))) (fs_one (fs_setAt (i := 4) rfl (.inl rfl) (by decide) (by decide) (fd_var 5) (e_ownIx (i := 4) rfl (.inl rfl) (by decide) (by decide) fd_int))) fs_nil)))) (fs_frz 4 (fs_one (fs_ret (e_tuple B (fa_cons (fd_var 4) fa_nil))))))), hg, F.kp, hb⟩
abbrev s_limited_game : Stmt := topS 31
theorem sc_limited_game : FnScope ["offers", "limit", "row", "costs", "load", "_", "offer"] ["offers", "limit"] (defScope s_limited_game) := ⟨rfl, rfl, rfl, by decide +kernel, rfl, by decide +kernel, by decide +kernel⟩
theorem ok_limited_game {a : Addr} {fd : FuncData} (F : Fun K "_limited_game" "_limited_game" s_limited_game a fd) (hg : mg "_limited_game" = some (.ref a)) (hb : Binds K fd ["offers", "limit"] []) (B : Bi mg) : FnD P w K mg base Tb "_limited_game" 1 m_limited_game := ⟨a, fd, ["offers", "limit"], fn_okD F sc_limited_game fun cdv A outer s H E hr => 
  (fs_cons (fs_set (i := 2) sc_limited_game.nd rfl (.inr rfl) (e_tuple B (fa_cons (fd_lc rfl sc_limited_game.nd (fi_rng2 (by rfl) B.range (fa_cons fd_int (fa_cons (fd_add (e_len B (fa_cons (fd_var 0) fa_nil)) fd_int) fa_nil))) (own := [("load", 4)]) (blkOk_by (by rfl)) (fun _ _ _ _ _ => (fg_nm (i := 4) sc_limited_game.nd rfl (.inl rfl))) (fun _ _ _ _ _ => ft_yes) (fun _ _ _ _ _ => (fd_if (t_le (fd_var 4) (fd_var 1)) fd_int fd_int))) fa_nil))) (fs_cons (fs_set (i := 3) sc_limited_game.nd rfl (.inr rfl) (e_tuple B (fa_cons (fd_lc rfl sc_limited_game.nd (fi_rng1 (by rfl) B.range (fa_cons (e_ix (e_ix (fd_var 0) fd_int) fd_int) fa_nil)) (own := [("_", 5)]) (blkOk_by (by rfl)) (fun _ _ _ _ _ => (fg_nm (i := 5) sc_limited_game.nd rfl (.inl rfl))) (fun _ _ _ _ _ => ft_yes) (fun _ _ _ _ _ => (fd_var 2))) fa_nil))) (fs_one (fs_ret (e_tuple B (fa_cons (fd_lc rfl sc_limited_game.nd (fi_seq (fd_var 0)) (own := [("offer", 6)]) (blkOk_by (by rfl)) (fun _ _ _ _ _ => (fg_nm (i := 6) sc_limited_game.nd rfl (.inl rfl))) (fun _ _ _ _ _ => ft_yes) (fun _ _ _ _ _ => (fd_tup (fa_cons (fd_var 6) (fa_cons (fd_var 3) fa_nil))))) fa_nil)))))), hg, F.kp, hb⟩
abbrev s_known_lots : Stmt := topS 10
theorem sc_known_lots : FnScope ["offer", "lot"] ["offer"] (defScope s_known_lots) := ⟨rfl, rfl, rfl, by decide +kernel, rfl, by decide +kernel, by decide +kernel⟩
theorem ok_known_lots {a : Addr} {fd : FuncData} (F : Fun K "known_lots" "known_lots" s_known_lots a fd) (hg : mg "known_lots" = some (.ref a)) (hb : Binds K fd ["offer"] []) (B : Bi mg) : FnD P w K mg base Tb "known_lots" 1 m_known_lots := ⟨a, fd, ["offer"], fn_okD F sc_known_lots fun cdv A outer s H E hr => 
  (fs_one (fs_ret (fd_dc hr rfl sc_known_lots.nd (fi_seq (e_ix (fd_var 0) fd_int)) (own := [("lot", 1)]) (blkOk_by (by rfl)) (fun _ _ _ _ _ => (fg_nm (i := 1) sc_known_lots.nd rfl (.inl rfl))) (fun _ _ _ _ _ => ft_yes) (fun _ _ _ _ _ => (fd_var 1))))), hg, F.kp, hb⟩
abbrev s_difference : Stmt := topS 7
theorem sc_difference : FnScope ["first", "second", "thing"] ["first", "second"] (defScope s_difference) := ⟨rfl, rfl, rfl, by decide +kernel, rfl, by decide +kernel, by decide +kernel⟩
theorem ok_difference {a : Addr} {fd : FuncData} (F : Fun K "difference" "difference" s_difference a fd) (hg : mg "difference" = some (.ref a)) (hb : Binds K fd ["first", "second"] []) (B : Bi mg) : FnD P w K mg base Tb "difference" 1 m_difference := ⟨a, fd, ["first", "second"], fn_okD F sc_difference fun cdv A outer s H E hr => 
  (fs_one (fs_ret (e_tuple B (fa_cons (fd_lc rfl sc_difference.nd (fi_seq (fd_var 0)) (own := [("thing", 2)]) (blkOk_by (by rfl)) (fun _ _ _ _ _ => (fg_nm (i := 2) sc_difference.nd rfl (.inl rfl))) (fun _ _ _ _ _ => (ft_one (t_notin hr (fd_var 2) (fd_var 1)))) (fun _ _ _ _ _ => (fd_var 2))) fa_nil)))), hg, F.kp, hb⟩
abbrev s_things_missing : Stmt := topS 9
theorem sc_things_missing : FnScope ["size", "lot"] ["size", "lot"] (defScope s_things_missing) := ⟨rfl, rfl, rfl, by decide +kernel, rfl, by decide +kernel, by decide +kernel⟩
theorem ok_things_missing {a : Addr} {fd : FuncData} (F : Fun K "_things_missing" "_things_missing" s_things_missing a fd) (D_difference : FnD P w K mg base Tb "difference" 1 m_difference) (hg : mg "_things_missing" = some (.ref a)) (hb : Binds K fd ["size", "lot"] []) (B : Bi mg) : FnD P w K mg base Tb "_things_missing" 2 m_things_missing := ⟨a, fd, ["size", "lot"], fn_okD F sc_things_missing fun cdv A outer s H E hr => 
  (fs_one (fs_ret (e_call D_difference (fun σ => lets_of (L2N.takes_of rfl rfl rfl rfl) σ) hr (fa_cons (fd_tupR1 rfl (by rfl) B.tuple (by rfl) B.range (fd_var 0)) (fa_cons (fd_var 1) fa_nil))))), hg, F.kp, hb⟩
abbrev s_put_in : Stmt := topS 4
theorem sc_put_in : FnScope ["things", "into"] ["things", "into"] (defScope s_put_in) := ⟨rfl, rfl, rfl, by decide +kernel, rfl, by decide +kernel, by decide +kernel⟩
theorem ok_put_in {a : Addr} {fd : FuncData} (F : Fun K "put_in" "put_in" s_put_in a fd) (hg : mg "put_in" = some (.ref a)) (hb : Binds K fd ["things", "into"] []) (B : Bi mg) : FnD P w K mg base Tb "put_in" 1 m_put_in := ⟨a, fd, ["things", "into"], fn_okD F sc_put_in fun cdv A outer s H E hr => 
  (fs_one (fs_ret (e_tuple B (fa_cons (e_sorted B hr (fa_cons (fd_add (fd_var 0) (fd_tup (fa_cons (fd_var 1) fa_nil))) fa_nil)) fa_nil)))), hg, F.kp, hb⟩
abbrev s_leave_out : Stmt := topS 3
theorem sc_leave_out : FnScope ["things", "out", "thing"] ["things", "out"] (defScope s_leave_out) := ⟨rfl, rfl, rfl, by decide +kernel, rfl, by decide +kernel, by decide +kernel⟩
theorem ok_leave_out {a : Addr} {fd : FuncData} (F : Fun K "leave_out" "leave_out" s_leave_out a fd) (hg : mg "leave_out" = some (.ref a)) (hb : Binds K fd ["things", "out"] []) (B : Bi mg) : FnD P w K mg base Tb "leave_out" 1 m_leave_out := ⟨a, fd, ["things", "out"], fn_okD F sc_leave_out fun cdv A outer s H E hr => 
  (fs_one (fs_ret (e_tuple B (fa_cons (fd_lc rfl sc_leave_out.nd (fi_seq (fd_var 0)) (own := [("thing", 2)]) (blkOk_by (by rfl)) (fun _ _ _ _ _ => (fg_nm (i := 2) sc_leave_out.nd rfl (.inl rfl))) (fun _ _ _ _ _ => (ft_one (t_ne hr (fd_var 2) (fd_var 1)))) (fun _ _ _ _ _ => (fd_var 2))) fa_nil)))), hg, F.kp, hb⟩
abbrev s_exchange : Stmt := topS 5
theorem sc_exchange : FnScope ["things", "out", "into"] ["things", "out", "into"] (defScope s_exchange) := ⟨rfl, rfl, rfl, by decide +kernel, rfl, by decide +kernel, by decide +kernel⟩
theorem ok_exchange {a : Addr} {fd : FuncData} (F : Fun K "exchange" "exchange" s_exchange a fd) (D_put_in : FnD P w K mg base Tb "put_in" 1 m_put_in) (D_leave_out : FnD P w K mg base Tb "leave_out" 1 m_leave_out) (hg : mg "exchange" = some (.ref a)) (hb : Binds K fd ["things", "out", "into"] []) (B : Bi mg) : FnD P w K mg base Tb "exchange" 2 m_exchange := ⟨a, fd, ["things", "out", "into"], fn_okD F sc_exchange fun cdv A outer s H E hr => 
  (fs_one (fs_ret (e_call D_put_in (fun σ => lets_of (L2N.takes_of rfl rfl rfl rfl) σ) hr (fa_cons (e_call D_leave_out (fun σ => lets_of (L2N.takes_of rfl rfl rfl rfl) σ) hr (fa_cons (fd_var 0) (fa_cons (fd_var 1) fa_nil))) (fa_cons (fd_var 2) fa_nil))))), hg, F.kp, hb⟩
abbrev s_replacements : Stmt := topS 11
theorem sc_replacements : FnScope ["offer", "known", "lot", "out", "missing", "thing"] ["offer", "known", "lot", "out"] (defScope s_replacements) := ⟨rfl, rfl, rfl, by decide +kernel, rfl, by decide +kernel, by decide +kernel⟩
theorem ok_replacements {a : Addr} {fd : FuncData} (F : Fun K "replacements" "replacements" s_replacements a fd) (D_things_missing : FnD P w K mg base Tb "_things_missing" 2 m_things_missing) (D_exchange : FnD P w K mg base Tb "exchange" 2 m_exchange) (hg : mg "replacements" = some (.ref a)) (hb : Binds K fd ["offer", "known", "lot", "out"] []) (B : Bi mg) : FnD P w K mg base Tb "replacements" 3 m_replacements := ⟨a, fd, ["offer", "known", "lot", "out"], fn_okD F sc_replacements fun cdv A outer s H E hr => 
  (fs_cons (fs_set (i := 4) sc_replacements.nd rfl (.inl rfl) (e_call D_things_missing (fun σ => lets_of (L2N.takes_of rfl rfl rfl rfl) σ) hr (fa_cons (e_ix (fd_var 0) fd_int) (fa_cons (fd_var 2) fa_nil)))) (fs_one (fs_ret (fd_lc rfl sc_replacements.nd (fi_seq (fd_var 4)) (own := [("thing", 5)]) (blkOk_by (by rfl)) (fun _ _ _ _ _ => (fg_nm (i := 5) sc_replacements.nd rfl (.inl rfl))) (fun _ _ _ _ _ => (ft_one (t_inT hr (e_call D_exchange (fun σ => lets0 σ) hr (fa_cons (fd_var 2) (fa_cons (fd_var 3) (fa_cons (fd_var 5) fa_nil)))) (fd_var 1)))) (fun _ _ _ _ _ => (fd_var 5)))))), hg, F.kp, hb⟩
abbrev s_exchanges_of : Stmt := topS 21
theorem sc_exchanges_of : FnScope ["game", "choice", "found", "taker", "lot", "offer", "known", "out", "_", "into"] ["game", "choice"] (defScope s_exchanges_of) := ⟨rfl, rfl, rfl, by decide +kernel, rfl, by decide +kernel, by decide +kernel⟩
theorem ok_exchanges_of {a : Addr} {fd : FuncData} (F : Fun K "_exchanges_of" "_exchanges_of" s_exchanges_of a fd) (D_known_lots : FnD P w K mg base Tb "known_lots" 1 m_known_lots) (D_replacements : FnD P w K mg base Tb "replacements" 3 m_replacements) (hg : mg "_exchanges_of" = some (.ref a)) (hb : Binds K fd ["game", "choice"] []) (B : Bi mg) : FnD P w K mg base Tb "_exchanges_of" 4 m_exchanges_of := ⟨a, fd, ["game", "choice"], (fn_okO F sc_exchanges_of fun cdv A outer s H E hr => 
  (os_cons (os_newLL (i := 2) (v := 8) (own := [("_", 8)]) rfl sc_exchanges_of.nd rfl rfl (by rfl) (oi_mask (fi_rng1 (by rfl) B.range (fa_cons (e_ix (e_ix (e_ix (fd_var 0) fd_int) fd_int) fd_int) fa_nil))) (blkOk_by (by rfl)) rfl (by decide) (fun _ _ _ _ _ => .inl rfl) (fun _ _ _ _ _ => .inr rfl)) (os_cons (os_for (passes_of rfl) rfl (oi_mask (fi_enum (by rfl) B.enumerate (fa_cons (fd_var 1) fa_nil))) (og_tup rfl (ogs_cons (og_nm (i := 3) sc_exchanges_of.nd rfl (.inr rfl)) (ogs_cons (og_nm (i := 4) sc_exchanges_of.nd rfl (.inl rfl)) ogs_nil))) (os_cons (os_set (i := 5) sc_exchanges_of.nd rfl (.inl rfl) (o_mask (e_ix (e_ix (fd_var 0) (fd_var 3)) fd_int))) (os_cons (os_set (i := 6) sc_exchanges_of.nd rfl (.inl rfl) (o_mask (e_call D_known_lots (fun σ => lets_of (L2N.takes_of rfl rfl rfl rfl) σ) hr (fa_cons (fd_var 5) fa_nil)))) (os_one (os_for (passes_of rfl) rfl (oi_mask (fi_seq (fd_var 4))) (og_nm (i := 7) sc_exchanges_of.nd rfl (.inl rfl)) (os_one (os_expr (o_extend (o_ix (o_var 2) (o_mask (fd_var 7))) (o_mask (fd_lc rfl sc_exchanges_of.nd (fi_seq (e_call D_replacements (fun σ => lets_of (L2N.takes_of rfl rfl rfl rfl) σ) hr (fa_cons (fd_var 5) (fa_cons (fd_var 6) (fa_cons (fd_var 4) (fa_cons (fd_var 7) fa_nil)))))) (own := [("into", 9)]) (blkOk_by (by rfl)) (fun _ _ _ _ _ => (fg_nm (i := 9) sc_exchanges_of.nd rfl (.inl rfl))) (fun _ _ _ _ _ => ft_yes) (fun _ _ _ _ _ => (fd_tup (fa_cons (fd_var 3) (fa_cons (fd_var 9) fa_nil)))))))))))))) (os_one (os_ret (o_var 2)))))).imp fun _ _ _ _ h => spD_pure h, hg, F.kp, hb⟩
abbrev s_steps_from : Stmt := topS 22
theorem sc_steps_from : FnScope ["exchanges", "start", "steps", "reached", "further", "out", "taker", "into"] ["exchanges", "start"] (defScope s_steps_from) := ⟨rfl, rfl, rfl, by decide +kernel, rfl, by decide +kernel, by decide +kernel⟩
theorem ok_steps_from {a : Addr} {fd : FuncData} (F : Fun K "_steps_from" "_steps_from" s_steps_from a fd) (hg : mg "_steps_from" = some (.ref a)) (hb : Binds K fd ["exchanges", "start"] []) (B : Bi mg) : FnD P w K mg base Tb "_steps_from" 1 m_steps_from := ⟨a, fd, ["exchanges", "start"], fn_okD F sc_steps_from fun cdv A outer s H E hr => 
  (fs_cons (fs_disp (i := 2) (ps := [((dVar 1), (dC .none))]) sc_steps_from.nd rfl (.inl rfl) (pps_cons (fd_var 1) fd_non pps_nil)) (fs_cons (fs_set (i := 3) sc_steps_from.nd rfl (.inl rfl) (fd_lst (fa_cons (fd_var 1) fa_nil))) (fs_cons (fs_while (fuel := fun _ => 1000000) (passes_of rfl) (t_gt (e_len B (fa_cons (fd_var 3) fa_nil)) fd_int) (fs_cons (fs_own (i := 4) sc_steps_from.nd rfl (.inl rfl) (fn_lst fa_nil)) (fs_cons (fs_for (passes_of rfl) rfl (fi_seq (fd_var 3)) (fg_nm (i := 5) sc_steps_from.nd rfl (.inl rfl)) (fs_one (fs_for (passes_of rfl) rfl (fi_seq (e_ix (fd_var 0) (fd_var 5))) (fg_tup rfl (fgs_cons (fg_nm (i := 6) sc_steps_from.nd rfl (.inl rfl)) (fgs_cons (fg_nm (i := 7) sc_steps_from.nd rfl (.inl rfl)) fgs_nil))) (fs_one (fs_if (t_dkNin (i := 2) hr rfl (by first | exact Or.inl rfl | exact Or.inr (Or.inl rfl) | exact Or.inr (Or.inr rfl)) (fd_var 7)) (fs_cons (fs_dkPut (i := 2) hr rfl (.inl rfl) (fd_var 7) (fd_tup (fa_cons (fd_var 6) (fa_cons (fd_var 5) fa_nil)))) (fs_one (fs_app (i := 4) rfl (.inl rfl) (by decide) (by decide) (fd_var 7) rfl rfl rfl rfl rfl rfl))) fs_nil))))) (fs_frz 4 (fs_one (fs_set (i := 3) sc_steps_from.nd rfl (.inl rfl) (fd_var 4))))))) (fs_frzK 2 (fs_one (fs_ret (fd_var 2))))))), hg, F.kp, hb⟩
abbrev s_chains_of : Stmt := topS 20
theorem sc_chains_of : FnScope ["game", "choice", "exchanges", "start", "lot", "thing"] ["game", "choice"] (defScope s_chains_of) := ⟨rfl, rfl, rfl, by decide +kernel, rfl, by decide +kernel, by decide +kernel⟩
theorem ok_chains_of {a : Addr} {fd : FuncData} (F : Fun K "chains_of" "chains_of" s_chains_of a fd) (D_exchanges_of : FnD P w K mg base Tb "_exchanges_of" 4 m_exchanges_of) (D_steps_from : FnD P w K mg base Tb "_steps_from" 1 m_steps_from) (hg : mg "chains_of" = some (.ref a)) (hb : Binds K fd ["game", "choice"] []) (B : Bi mg) : FnD P w K mg base Tb "chains_of" 5 m_chains_of := ⟨a, fd, ["game", "choice"], fn_okD F sc_chains_of fun cdv A outer s H E hr => 
  (fs_cons (fs_set (i := 2) sc_chains_of.nd rfl (.inr rfl) (e_call D_exchanges_of (fun σ => lets_of (L2N.takes_of rfl rfl rfl rfl) σ) hr (fa_cons (fd_var 0) (fa_cons (fd_var 1) fa_nil)))) (fs_one (fs_ret (fd_dcK rfl sc_chains_of.nd (fi_seq (fd_sortSc2I hr B rfl sc_chains_of.nd (fi_seq (fd_var 1)) (own := [("lot", 4), ("thing", 5)]) (vs1 := [5]) (blkOk_by (by rfl)) (fun _ _ _ _ _ => (fg_nm (i := 4) sc_chains_of.nd rfl (.inl rfl))) (fun _ _ _ _ _ => ft_yes) (fun _ _ _ _ _ => (fi_seq (fd_var 4))) (fun _ _ _ _ _ => (fg_nm (i := 5) sc_chains_of.nd rfl (.inl rfl))) (fun _ _ _ _ _ => ft_yes) (fun _ _ _ _ _ => (fd_var 5)))) (own := [("start", 3)]) (blkOk_by (by rfl)) (fun _ _ _ _ _ => (fg_nm (i := 3) sc_chains_of.nd rfl (.inl rfl))) (fun _ _ _ _ _ => ft_yes) (fun _ _ _ _ _ => (fd_var 3)) (fun _ _ _ _ _ => (e_call D_steps_from (fun σ => lets0 σ) hr (fa_cons (fd_var 2) (fa_cons (fd_var 3) fa_nil)))))))), hg, F.kp, hb⟩
abbrev s_count_loads : Stmt := topS 15
theorem sc_count_loads : FnScope ["size", "players", "choice", "counts", "player", "lot", "thing", "_"] ["size", "players", "choice"] (defScope s_count_loads) := ⟨rfl, rfl, rfl, by decide +kernel, rfl, by decide +kernel, by decide +kernel⟩
theorem ok_count_loads {a : Addr} {fd : FuncData} (F : Fun K "count_loads" "count_loads" s_count_loads a fd) (hg : mg "count_loads" = some (.ref a)) (hb : Binds K fd ["size", "players", "choice"] []) (B : Bi mg) : FnD P w K mg base Tb "count_loads" 1 m_count_loads := ⟨a, fd, ["size", "players", "choice"], fn_okD F sc_count_loads fun cdv A outer s H E hr => 
  (fs_cons (fs_ownLc (i := 3) rfl sc_count_loads.nd rfl rfl (by rfl) (fi_rng1 (by rfl) B.range (fa_cons (fd_var 0) fa_nil)) (own := [("_", 7)]) (blkOk_by (by rfl)) (fun _ _ _ _ _ => (fg_nm (i := 7) sc_count_loads.nd rfl (.inl rfl))) (fun _ _ _ _ _ => ft_yes) (fun _ _ _ _ _ => fd_int)) (fs_cons (fs_for (passes_of rfl) rfl (fi_zip (by rfl) B.zip (fa_cons (fd_var 1) (fa_cons (fd_var 2) fa_nil))) (fg_tup rfl (fgs_cons (fg_nm (i := 4) sc_count_loads.nd rfl (.inl rfl)) (fgs_cons (fg_nm (i := 5) sc_count_loads.nd rfl (.inl rfl)) fgs_nil))) (fs_one (fs_for (passes_of rfl) rfl (fi_seq (fd_var 5)) (fg_nm (i := 6) sc_count_loads.nd rfl (.inl rfl)) (fs_one (fs_augAt (i := 3) rfl (.inl rfl) (by decide) (by decide) (fd_var 6) (e_ix (fd_var 4) fd_int)))))) (fs_frz 3 (fs_one (fs_ret (e_tuple B (fa_cons (fd_var 3) fa_nil))))))), hg, F.kp, hb⟩
abbrev s_players : Stmt := topS 17
theorem sc_players : FnScope ["game", "offer", "costs"] ["game"] (defScope s_players) := ⟨rfl, rfl, rfl, by decide +kernel, rfl, by decide +kernel, by decide +kernel⟩
theorem ok_players {a : Addr} {fd : FuncData} (F : Fun K "_players" "_players" s_players a fd) (hg : mg "_players" = some (.ref a)) (hb : Binds K fd ["game"] []) (B : Bi mg) : FnD P w K mg base Tb "_players" 1 m_players := ⟨a, fd, ["game"], fn_okD F sc_players fun cdv A outer s H E hr => 
  (fs_one (fs_ret (fd_lc rfl sc_players.nd (fi_seq (fd_var 0)) (own := [("offer", 1), ("costs", 2)]) (blkOk_by (by rfl)) (fun _ _ _ _ _ => (fg_tup rfl (fgs_cons (fg_nm (i := 1) sc_players.nd rfl (.inl rfl)) (fgs_cons (fg_nm (i := 2) sc_players.nd rfl (.inl rfl)) fgs_nil)))) (fun _ _ _ _ _ => ft_yes) (fun _ _ _ _ _ => (fd_tup (fa_cons (fd_var 1) (fa_cons (fd_var 2) (fa_cons fd_int fa_nil)))))))), hg, F.kp, hb⟩
abbrev s_loads : Stmt := topS 18
theorem sc_loads : FnScope ["game", "choice", "size"] ["game", "choice"] (defScope s_loads) := ⟨rfl, rfl, rfl, by decide +kernel, rfl, by decide +kernel, by decide +kernel⟩
theorem ok_loads {a : Addr} {fd : FuncData} (F : Fun K "loads" "loads" s_loads a fd) (D_count_loads : FnD P w K mg base Tb "count_loads" 1 m_count_loads) (D_players : FnD P w K mg base Tb "_players" 1 m_players) (hg : mg "loads" = some (.ref a)) (hb : Binds K fd ["game", "choice"] []) (B : Bi mg) : FnD P w K mg base Tb "loads" 2 m_loads := ⟨a, fd, ["game", "choice"], fn_okD F sc_loads fun cdv A outer s H E hr => 
  (fs_cons (fs_set (i := 2) sc_loads.nd rfl (.inl rfl) (fd_if (t_gt (e_len B (fa_cons (fd_var 0) fa_nil)) fd_int) (e_ix (e_ix (e_ix (fd_var 0) fd_int) fd_int) fd_int) fd_int)) (fs_one (fs_ret (e_call D_count_loads (fun σ => lets_of (L2N.takes_of rfl rfl rfl rfl) σ) hr (fa_cons (fd_var 2) (fa_cons (e_call D_players (fun σ => lets_of (L2N.takes_of rfl rfl rfl rfl) σ) hr (fa_cons (fd_var 0) fa_nil)) (fa_cons (fd_var 1) fa_nil))))))), hg, F.kp, hb⟩
abbrev s_bar_behind : Stmt := topS 30
theorem sc_bar_behind : FnScope ["offers", "limit", "choice", "game", "chains", "starts", "reached", "thing", "load", "start"] ["offers", "limit", "choice"] (defScope s_bar_behind) := ⟨rfl, rfl, rfl, by decide +kernel, rfl, by decide +kernel, by decide +kernel⟩
theorem ok_bar_behind {a : Addr} {fd : FuncData} (F : Fun K "bar_behind" "bar_behind" s_bar_behind a fd) (D_limited_game : FnD P w K mg base Tb "_limited_game" 1 m_limited_game) (D_chains_of : FnD P w K mg base Tb "chains_of" 5 m_chains_of) (D_difference : FnD P w K mg base Tb "difference" 1 m_difference) (D_loads : FnD P w K mg base Tb "loads" 2 m_loads) (hg : mg "bar_behind" = some (.ref a)) (hb : Binds K fd ["offers", "limit", "choice"] []) (B : Bi mg) : FnD P w K mg base Tb "bar_behind" 6 m_bar_behind := ⟨a, fd, ["offers", "limit", "choice"], fn_okD F sc_bar_behind fun cdv A outer s H E hr => 
  (fs_cons (fs_set (i := 3) sc_bar_behind.nd rfl (.inl rfl) (e_call D_limited_game (fun σ => lets_of (L2N.takes_of rfl rfl rfl rfl) σ) hr (fa_cons (fd_var 0) (fa_cons (fd_var 1) fa_nil)))) (fs_cons (fs_set (i := 4) sc_bar_behind.nd rfl (.inr rfl) (e_call D_chains_of (fun σ => lets_of (L2N.takes_of rfl rfl rfl rfl) σ) hr (fa_cons (fd_var 3) (fa_cons (fd_var 2) fa_nil)))) (fs_cons (fs_setLc (i := 5) rfl sc_bar_behind.nd rfl rfl (by rfl) (fi_enum (by rfl) B.enumerate (fa_cons (e_call D_loads (fun σ => lets_of (L2N.takes_of rfl rfl rfl rfl) σ) hr (fa_cons (fd_var 3) (fa_cons (fd_var 2) fa_nil))) fa_nil)) (own := [("thing", 7), ("load", 8)]) (blkOk_by (by rfl)) (fun _ _ _ _ _ => (fg_tup rfl (fgs_cons (fg_nm (i := 7) sc_bar_behind.nd rfl (.inl rfl)) (fgs_cons (fg_nm (i := 8) sc_bar_behind.nd rfl (.inl rfl)) fgs_nil)))) (fun _ _ _ _ _ => (ft_one (t_gt (fd_var 8) (fd_var 1)))) (fun _ _ _ _ _ => (fd_var 7))) (fs_cons (fs_if (t_eq hr (e_len B (fa_cons (fd_var 5) fa_nil)) fd_int) (fs_one (fs_ret fd_non)) fs_nil) (fs_cons (fs_setLc2 (i := 6) rfl sc_bar_behind.nd rfl rfl (by rfl) (fi_seq (fd_var 5)) (own := [("start", 9), ("thing", 7)]) (vs1 := [7]) (blkOk_by (by rfl)) (fun _ _ _ _ _ => (fg_nm (i := 9) sc_bar_behind.nd rfl (.inl rfl))) (fun _ _ _ _ _ => ft_yes) (fun _ _ _ _ _ => (fi_keysK (e_dix hr (fd_var 4) (fd_var 9)))) (fun _ _ _ _ _ => (fg_nm (i := 7) sc_bar_behind.nd rfl (.inl rfl))) (fun _ _ _ _ _ => ft_yes) (fun _ _ _ _ _ => (fd_var 7))) (fs_one (fs_ret (e_call D_difference (fun σ => lets_of (L2N.takes_of rfl rfl rfl rfl) σ) hr (fa_cons (fd_tupR1 rfl (by rfl) B.tuple (by rfl) B.range (e_ix (e_ix (fd_var 0) fd_int) fd_int)) (fa_cons (fd_var 6) fa_nil)))))))))), hg, F.kp, hb⟩
abbrev s_with_lot : Stmt := topS 14
theorem sc_with_lot : FnScope ["choice", "taker", "lot"] ["choice", "taker", "lot"] (defScope s_with_lot) := ⟨rfl, rfl, rfl, by decide +kernel, rfl, by decide +kernel, by decide +kernel⟩
theorem ok_with_lot {a : Addr} {fd : FuncData} (F : Fun K "with_lot" "with_lot" s_with_lot a fd) (hg : mg "with_lot" = some (.ref a)) (hb : Binds K fd ["choice", "taker", "lot"] []) (B : Bi mg) : FnD P w K mg base Tb "with_lot" 1 m_with_lot := ⟨a, fd, ["choice", "taker", "lot"], fn_okD F sc_with_lot fun cdv A outer s H E hr => 
  (fs_one (fs_ret (fd_add (fd_add (fd_cut (fd_var 0) fo_none (fo_some (fd_var 1))) (fd_tup (fa_cons (fd_var 2) fa_nil))) (fd_cut (fd_var 0) (fo_some (fd_add (fd_var 1) fd_int)) fo_none)))), hg, F.kp, hb⟩
abbrev s_behind_chain : Stmt := topS 24
theorem sc_behind_chain : FnScope ["choice", "steps", "end", "reached", "into", "taker", "out"] ["choice", "steps", "end"] (defScope s_behind_chain) := ⟨rfl, rfl, rfl, by decide +kernel, rfl, by decide +kernel, by decide +kernel⟩
theorem ok_behind_chain {a : Addr} {fd : FuncData} (F : Fun K "_behind_chain" "_behind_chain" s_behind_chain a fd) (D_with_lot : FnD P w K mg base Tb "with_lot" 1 m_with_lot) (D_exchange : FnD P w K mg base Tb "exchange" 2 m_exchange) (hg : mg "_behind_chain" = some (.ref a)) (hb : Binds K fd ["choice", "steps", "end"] []) (B : Bi mg) : FnD P w K mg base Tb "_behind_chain" 3 m_behind_chain := ⟨a, fd, ["choice", "steps", "end"], fn_okD F sc_behind_chain fun cdv A outer s H E hr => 
  (fs_cons (fs_set (i := 3) sc_behind_chain.nd rfl (.inl rfl) (fd_var 0)) (fs_cons (fs_set (i := 4) sc_behind_chain.nd rfl (.inl rfl) (fd_var 2)) (fs_cons (fs_while (fuel := fun _ => 1000000) (passes_of rfl) (ft_notN (e_dix hr (fd_var 1) (fd_var 4))) (fs_cons (fs_asg (e_dix hr (fd_var 1) (fd_var 4)) (fg_tup rfl (fgs_cons (fg_nm (i := 5) sc_behind_chain.nd rfl (.inl rfl)) (fgs_cons (fg_nm (i := 6) sc_behind_chain.nd rfl (.inl rfl)) fgs_nil)))) (fs_cons (fs_set (i := 3) sc_behind_chain.nd rfl (.inl rfl) (e_call D_with_lot (fun σ => lets_of (L2N.takes_of rfl rfl rfl rfl) σ) hr (fa_cons (fd_var 3) (fa_cons (fd_var 5) (fa_cons (e_call D_exchange (fun σ => lets_of (L2N.takes_of rfl rfl rfl rfl) σ) hr (fa_cons (e_ix (fd_var 3) (fd_var 5)) (fa_cons (fd_var 6) (fa_cons (fd_var 4) fa_nil)))) fa_nil))))) (fs_one (fs_set (i := 4) sc_behind_chain.nd rfl (.inl rfl) (fd_var 6)))))) (fs_one (fs_ret (fd_var 3)))))), hg, F.kp, hb⟩
abbrev s_cost_at : Stmt := topS 1
theorem sc_cost_at : FnScope ["costs", "thing", "load"] ["costs", "thing", "load"] (defScope s_cost_at) := ⟨rfl, rfl, rfl, by decide +kernel, rfl, by decide +kernel, by decide +kernel⟩
theorem ok_cost_at {a : Addr} {fd : FuncData} (F : Fun K "cost_at" "cost_at" s_cost_at a fd) (hg : mg "cost_at" = some (.ref a)) (hb : Binds K fd ["costs", "thing", "load"] []) (B : Bi mg) : FnD P w K mg base Tb "cost_at" 1 m_cost_at := ⟨a, fd, ["costs", "thing", "load"], fn_okD F sc_cost_at fun cdv A outer s H E hr => 
  (fs_one (fs_ret (e_ix (e_ix (fd_var 0) (fd_var 1)) (fd_sub (fd_var 2) fd_int)))), hg, F.kp, hb⟩
abbrev s_lessened : Stmt := topS 23
theorem sc_lessened : FnScope ["game", "choice", "costs", "counts", "chains", "changes", "change", "first", "last", "start", "end"] ["game", "choice"] (defScope s_lessened) := ⟨rfl, rfl, rfl, by decide +kernel, rfl, by decide +kernel, by decide +kernel⟩
theorem ok_lessened {a : Addr} {fd : FuncData} (F : Fun K "lessened" "lessened" s_lessened a fd) (D_loads : FnD P w K mg base Tb "loads" 2 m_loads) (D_chains_of : FnD P w K mg base Tb "chains_of" 5 m_chains_of) (D_behind_chain : FnD P w K mg base Tb "_behind_chain" 3 m_behind_chain) (D_cost_at : FnD P w K mg base Tb "cost_at" 1 m_cost_at) (hg : mg "lessened" = some (.ref a)) (hb : Binds K fd ["game", "choice"] []) (B : Bi mg) : FnD P w K mg base Tb "lessened" 6 m_lessened := ⟨a, fd, ["game", "choice"], fn_okD F sc_lessened fun cdv A outer s H E hr => 
  (fs_cons (fs_set (i := 2) sc_lessened.nd rfl (.inr rfl) (e_ix (e_ix (fd_var 0) fd_int) fd_int)) (fs_cons (fs_set (i := 3) sc_lessened.nd rfl (.inr rfl) (e_call D_loads (fun σ => lets_of (L2N.takes_of rfl rfl rfl rfl) σ) hr (fa_cons (fd_var 0) (fa_cons (fd_var 1) fa_nil)))) (fs_cons (fs_set (i := 4) sc_lessened.nd rfl (.inr rfl) (e_call D_chains_of (fun σ => lets_of (L2N.takes_of rfl rfl rfl rfl) σ) hr (fa_cons (fd_var 0) (fa_cons (fd_var 1) fa_nil)))) (fs_cons (fs_setLc2 (i := 5) rfl sc_lessened.nd rfl rfl (by rfl) (fi_keysK (fd_var 4)) (own := [("start", 9), ("end", 10)]) (vs1 := [10]) (blkOk_by (by rfl)) (fun _ _ _ _ _ => (fg_nm (i := 9) sc_lessened.nd rfl (.inl rfl))) (fun _ _ _ _ _ => ft_yes) (fun _ _ _ _ _ => (fi_keysK (e_dix hr (fd_var 4) (fd_var 9)))) (fun _ _ _ _ _ => (fg_nm (i := 10) sc_lessened.nd rfl (.inl rfl))) (fun _ _ _ _ _ => (ft_one (t_ne hr (fd_var 10) (fd_var 9)))) (fun _ _ _ _ _ => (fd_tup (fa_cons (fd_sub (e_call D_cost_at (fun σ => lets0 σ) hr (fa_cons (fd_var 2) (fa_cons (fd_var 10) (fa_cons (fd_add (e_ix (fd_var 3) (fd_var 10)) fd_int) fa_nil)))) (e_call D_cost_at (fun σ => lets0 σ) hr (fa_cons (fd_var 2) (fa_cons (fd_var 9) (fa_cons (e_ix (fd_var 3) (fd_var 9)) fa_nil))))) (fa_cons (fd_var 9) (fa_cons (fd_var 10) fa_nil)))))) (fs_cons (fs_asg (e_minDf B hr (fd_var 5) (fd_tup (fa_cons fd_int (fa_cons fd_int (fa_cons fd_int fa_nil))))) (fg_tup rfl (fgs_cons (fg_nm (i := 6) sc_lessened.nd rfl (.inl rfl)) (fgs_cons (fg_nm (i := 7) sc_lessened.nd rfl (.inl rfl)) (fgs_cons (fg_nm (i := 8) sc_lessened.nd rfl (.inl rfl)) fgs_nil))))) (fs_one (fs_ret (fd_if (t_lt (fd_var 6) fd_int) (e_call D_behind_chain (fun σ => lets_of (L2N.takes_of rfl rfl rfl rfl) σ) hr (fa_cons (fd_var 1) (fa_cons (e_dix hr (fd_var 4) (fd_var 7)) (fa_cons (fd_var 8) fa_nil)))) fd_non)))))))), hg, F.kp, hb⟩
abbrev s_least_from : Stmt := topS 25
theorem sc_least_from : FnScope ["game", "choice", "reached", "better"] ["game", "choice"] (defScope s_least_from) := ⟨rfl, rfl, rfl, by decide +kernel, rfl, by decide +kernel, by decide +kernel⟩
theorem ok_least_from {a : Addr} {fd : FuncData} (F : Fun K "least_from" "least_from" s_least_from a fd) (D_lessened : FnD P w K mg base Tb "lessened" 6 m_lessened) (hg : mg "least_from" = some (.ref a)) (hb : Binds K fd ["game", "choice"] []) (B : Bi mg) : FnD P w K mg base Tb "least_from" 7 m_least_from := ⟨a, fd, ["game", "choice"], fn_okD F sc_least_from fun cdv A outer s H E hr => 
  (fs_cons (fs_set (i := 2) sc_least_from.nd rfl (.inl rfl) (fd_var 1)) (fs_cons (fs_set (i := 3) sc_least_from.nd rfl (.inl rfl) (e_call D_lessened (fun σ => lets_of (L2N.takes_of rfl rfl rfl rfl) σ) hr (fa_cons (fd_var 0) (fa_cons (fd_var 2) fa_nil)))) (fs_cons (fs_while (fuel := fun _ => 1000000) (passes_of rfl) (ft_notN (fd_var 3)) (fs_cons (fs_set (i := 2) sc_least_from.nd rfl (.inl rfl) (fd_var 3)) (fs_one (fs_set (i := 3) sc_least_from.nd rfl (.inl rfl) (e_call D_lessened (fun σ => lets_of (L2N.takes_of rfl rfl rfl rfl) σ) hr (fa_cons (fd_var 0) (fa_cons (fd_var 2) fa_nil))))))) (fs_one (fs_ret (fd_var 2)))))), hg, F.kp, hb⟩
abbrev s_least_crowded : Stmt := topS 29
theorem sc_least_crowded : FnScope ["offers", "limit", "choice"] ["offers", "limit", "choice"] (defScope s_least_crowded) := ⟨rfl, rfl, rfl, by decide +kernel, rfl, by decide +kernel, by decide +kernel⟩
theorem ok_least_crowded {a : Addr} {fd : FuncData} (F : Fun K "least_crowded" "least_crowded" s_least_crowded a fd) (D_least_from : FnD P w K mg base Tb "least_from" 7 m_least_from) (D_limited_game : FnD P w K mg base Tb "_limited_game" 1 m_limited_game) (hg : mg "least_crowded" = some (.ref a)) (hb : Binds K fd ["offers", "limit", "choice"] []) (B : Bi mg) : FnD P w K mg base Tb "least_crowded" 8 m_least_crowded := ⟨a, fd, ["offers", "limit", "choice"], fn_okD F sc_least_crowded fun cdv A outer s H E hr => 
  (fs_one (fs_ret (e_call D_least_from (fun σ => lets_of (L2N.takes_of rfl rfl rfl rfl) σ) hr (fa_cons (e_call D_limited_game (fun σ => lets_of (L2N.takes_of rfl rfl rfl rfl) σ) hr (fa_cons (fd_var 0) (fa_cons (fd_var 1) fa_nil))) (fa_cons (fd_var 2) fa_nil))))), hg, F.kp, hb⟩
abbrev s_first_lots : Stmt := topS 13
theorem sc_first_lots : FnScope ["offers", "_", "lots"] ["offers"] (defScope s_first_lots) := ⟨rfl, rfl, rfl, by decide +kernel, rfl, by decide +kernel, by decide +kernel⟩
theorem ok_first_lots {a : Addr} {fd : FuncData} (F : Fun K "first_lots" "first_lots" s_first_lots a fd) (hg : mg "first_lots" = some (.ref a)) (hb : Binds K fd ["offers"] []) (B : Bi mg) : FnD P w K mg base Tb "first_lots" 1 m_first_lots := ⟨a, fd, ["offers"], fn_okD F sc_first_lots fun cdv A outer s H E hr => 
  (fs_one (fs_ret (e_tuple B (fa_cons (fd_lc rfl sc_first_lots.nd (fi_seq (fd_var 0)) (own := [("_", 1), ("lots", 2)]) (blkOk_by (by rfl)) (fun _ _ _ _ _ => (fg_tup rfl (fgs_cons (fg_nm (i := 1) sc_first_lots.nd rfl (.inl rfl)) (fgs_cons (fg_nm (i := 2) sc_first_lots.nd rfl (.inl rfl)) fgs_nil)))) (fun _ _ _ _ _ => ft_yes) (fun _ _ _ _ _ => (e_ix (fd_var 2) fd_int))) fa_nil)))), hg, F.kp, hb⟩
abbrev s_bar : Stmt := topS 28
theorem sc_bar : FnScope ["offers", "limit"] ["offers", "limit"] (defScope s_bar) := ⟨rfl, rfl, rfl, by decide +kernel, rfl, by decide +kernel, by decide +kernel⟩
theorem ok_bar {a : Addr} {fd : FuncData} (F : Fun K "bar" "bar" s_bar a fd) (D_bar_behind : FnD P w K mg base Tb "bar_behind" 6 m_bar_behind) (D_least_crowded : FnD P w K mg base Tb "least_crowded" 8 m_least_crowded) (D_first_lots : FnD P w K mg base Tb "first_lots" 1 m_first_lots) (hg : mg "bar" = some (.ref a)) (hb : Binds K fd ["offers", "limit"] []) (B : Bi mg) : FnD P w K mg base Tb "bar" 9 m_bar := ⟨a, fd, ["offers", "limit"], fn_okD F sc_bar fun cdv A outer s H E hr => 
  (fs_one (fs_ret (e_call D_bar_behind (fun σ => lets_of (L2N.takes_of rfl rfl rfl rfl) σ) hr (fa_cons (fd_var 0) (fa_cons (fd_var 1) (fa_cons (e_call D_least_crowded (fun σ => lets_of (L2N.takes_of rfl rfl rfl rfl) σ) hr (fa_cons (fd_var 0) (fa_cons (fd_var 1) (fa_cons (e_call D_first_lots (fun σ => lets_of (L2N.takes_of rfl rfl rfl rfl) σ) hr (fa_cons (fd_var 0) fa_nil)) fa_nil)))) fa_nil)))))), hg, F.kp, hb⟩
abbrev s_apart : Stmt := topS 27
theorem sc_apart : FnScope ["offers", "limit", "choice"] ["offers", "limit"] (defScope s_apart) := ⟨rfl, rfl, rfl, by decide +kernel, rfl, by decide +kernel, by decide +kernel⟩
theorem ok_apart {a : Addr} {fd : FuncData} (F : Fun K "apart" "apart" s_apart a fd) (D_least_crowded : FnD P w K mg base Tb "least_crowded" 8 m_least_crowded) (D_first_lots : FnD P w K mg base Tb "first_lots" 1 m_first_lots) (D_bar_behind : FnD P w K mg base Tb "bar_behind" 6 m_bar_behind) (hg : mg "apart" = some (.ref a)) (hb : Binds K fd ["offers", "limit"] []) (B : Bi mg) : FnD P w K mg base Tb "apart" 9 m_apart := ⟨a, fd, ["offers", "limit"], fn_okD F sc_apart fun cdv A outer s H E hr => 
  (fs_cons (fs_set (i := 2) sc_apart.nd rfl (.inl rfl) (e_call D_least_crowded (fun σ => lets_of (L2N.takes_of rfl rfl rfl rfl) σ) hr (fa_cons (fd_var 0) (fa_cons (fd_var 1) (fa_cons (e_call D_first_lots (fun σ => lets_of (L2N.takes_of rfl rfl rfl rfl) σ) hr (fa_cons (fd_var 0) fa_nil)) fa_nil))))) (fs_one (fs_ret (fd_if (ft_isN (e_call D_bar_behind (fun σ => lets_of (L2N.takes_of rfl rfl rfl rfl) σ) hr (fa_cons (fd_var 0) (fa_cons (fd_var 1) (fa_cons (fd_var 2) fa_nil))))) (fd_var 2) fd_non)))), hg, F.kp, hb⟩
abbrev s_law_is_integer : Stmt := topS 39
theorem sc_law_is_integer : FnScope ["value"] ["value"] (defScope s_law_is_integer) := ⟨rfl, rfl, rfl, by decide +kernel, rfl, by decide +kernel, by decide +kernel⟩
theorem ok_law_is_integer {a : Addr} {fd : FuncData} (F : Fun K "_law_is_integer" "_law_is_integer" s_law_is_integer a fd) (hg : mg "_law_is_integer" = some (.ref a)) (hb : Binds K fd ["value"] []) (B : Bi mg) : FnD P w K mg base Tb "_law_is_integer" 1 m_law_is_integer := ⟨a, fd, ["value"], fn_okD F sc_law_is_integer fun cdv A outer s H E hr => 
  (fs_one (fs_ret (fd_and (e_isInt B (fd_var 0)) (fd_one (fd_not (e_isBool B (fd_var 0))))))), hg, F.kp, hb⟩
abbrev s_law_is_set : Stmt := topS 40
theorem sc_law_is_set : FnScope ["value", "size", "k"] ["value", "size"] (defScope s_law_is_set) := ⟨rfl, rfl, rfl, by decide +kernel, rfl, by decide +kernel, by decide +kernel⟩
theorem ok_law_is_set {a : Addr} {fd : FuncData} (F : Fun K "_law_is_set" "_law_is_set" s_law_is_set a fd) (D_law_is_integer : FnD P w K mg base Tb "_law_is_integer" 1 m_law_is_integer) (hg : mg "_law_is_set" = some (.ref a)) (hb : Binds K fd ["value", "size"] []) (B : Bi mg) : FnD P w K mg base Tb "_law_is_set" 2 m_law_is_set := ⟨a, fd, ["value", "size"], fn_okD F sc_law_is_set fun cdv A outer s H E hr => 
  (fs_cons (fs_if (ft_not (ft_val (e_isTuple B (fd_var 0)))) (fs_one (fs_ret fd_bl)) fs_nil) (fs_cons (fs_for (passes_of rfl) rfl (fi_rng1 (by rfl) B.range (fa_cons (e_len B (fa_cons (fd_var 0) fa_nil)) fa_nil)) (fg_nm (i := 2) sc_law_is_set.nd rfl (.inl rfl)) (fs_cons (fs_if (PW.pt (fw_or (ft_not (ft_val (e_call D_law_is_integer (fun σ => lets_of (L2N.takes_of rfl rfl rfl rfl) σ) hr (fa_cons (e_ix (fd_var 0) (fd_var 2)) fa_nil)))) (fw_or (t_lt (e_ix (fd_var 0) (fd_var 2)) fd_int) (fw_or1 (t_ge (e_ix (fd_var 0) (fd_var 2)) (fd_var 1)))))) (fs_one (fs_ret fd_bl)) fs_nil) (fs_one (fs_if (PW.pt (fw_and (t_gt (fd_var 2) fd_int) (fw_and1 (t_le (e_ix (fd_var 0) (fd_var 2)) (e_ix (fd_var 0) (fd_sub (fd_var 2) fd_int)))))) (fs_one (fs_ret fd_bl)) fs_nil)))) (fs_one (fs_ret fd_bl)))), hg, F.kp, hb⟩
abbrev s_law_loads : Stmt := topS 45
theorem sc_law_loads : FnScope ["choice", "size", "thing", "lot"] ["choice", "size"] (defScope s_law_loads) := ⟨rfl, rfl, rfl, by decide +kernel, rfl, by decide +kernel, by decide +kernel⟩
theorem ok_law_loads {a : Addr} {fd : FuncData} (F : Fun K "_law_loads" "_law_loads" s_law_loads a fd) (hg : mg "_law_loads" = some (.ref a)) (hb : Binds K fd ["choice", "size"] []) (B : Bi mg) : FnD P w K mg base Tb "_law_loads" 1 m_law_loads := ⟨a, fd, ["choice", "size"], fn_okD F sc_law_loads fun cdv A outer s H E hr => 
  (fs_one (fs_ret (fd_lc rfl sc_law_loads.nd (fi_rng1 (by rfl) B.range (fa_cons (fd_var 1) fa_nil)) (own := [("thing", 2)]) (blkOk_by (by rfl)) (fun _ _ _ _ _ => (fg_nm (i := 2) sc_law_loads.nd rfl (.inr rfl))) (fun _ _ _ _ _ => ft_yes) (fun _ _ _ _ _ => (e_len B (fa_cons (fd_lc rfl sc_law_loads.nd (fi_seq (fd_var 0)) (own := [("lot", 3)]) (blkOk_by (by rfl)) (fun _ _ _ _ _ => (fg_nm (i := 3) sc_law_loads.nd rfl (.inl rfl))) (fun _ _ _ _ _ => (ft_one (t_in hr (fd_var 2) (fd_var 3)))) (fun _ _ _ _ _ => (fd_var 3))) fa_nil)))))), hg, F.kp, hb⟩
abbrev s_law_is_apart : Stmt := topS 48
theorem sc_law_is_apart : FnScope ["told", "offers", "limit", "k", "load"] ["told", "offers", "limit"] (defScope s_law_is_apart) := ⟨rfl, rfl, rfl, by decide +kernel, rfl, by decide +kernel, by decide +kernel⟩
theorem ok_law_is_apart {a : Addr} {fd : FuncData} (F : Fun K "_law_is_apart" "_law_is_apart" s_law_is_apart a fd) (D_law_is_set : FnD P w K mg base Tb "_law_is_set" 2 m_law_is_set) (D_law_loads : FnD P w K mg base Tb "_law_loads" 1 m_law_loads) (hg : mg "_law_is_apart" = some (.ref a)) (hb : Binds K fd ["told", "offers", "limit"] []) (B : Bi mg) : FnD P w K mg base Tb "_law_is_apart" 3 m_law_is_apart := ⟨a, fd, ["told", "offers", "limit"], fn_okD F sc_law_is_apart fun cdv A outer s H E hr => 
  (fs_cons (fs_if (PW.pt (fw_or (ft_not (ft_val (e_isTuple B (fd_var 0)))) (fw_or1 (t_ne hr (e_len B (fa_cons (fd_var 0) fa_nil)) (e_len B (fa_cons (fd_var 1) fa_nil)))))) (fs_one (fs_ret fd_bl)) fs_nil) (fs_cons (fs_for (passes_of rfl) rfl (fi_rng1 (by rfl) B.range (fa_cons (e_len B (fa_cons (fd_var 1) fa_nil)) fa_nil)) (fg_nm (i := 3) sc_law_is_apart.nd rfl (.inl rfl)) (fs_one (fs_if (PW.pt (fw_or (ft_not (ft_val (e_call D_law_is_set (fun σ => lets_of (L2N.takes_of rfl rfl rfl rfl) σ) hr (fa_cons (e_ix (fd_var 0) (fd_var 3)) (fa_cons (e_ix (e_ix (fd_var 1) (fd_var 3)) fd_int) fa_nil))))) (fw_or1 (t_notin hr (e_ix (fd_var 0) (fd_var 3)) (e_ix (e_ix (fd_var 1) (fd_var 3)) fd_int))))) (fs_one (fs_ret fd_bl)) fs_nil))) (fs_one (fs_ret (e_all B (fa_cons (fd_lc rfl sc_law_is_apart.nd (fi_seq (e_call D_law_loads (fun σ => lets_of (L2N.takes_of rfl rfl rfl rfl) σ) hr (fa_cons (fd_var 0) (fa_cons (e_ix (e_ix (fd_var 1) fd_int) fd_int) fa_nil)))) (own := [("load", 4)]) (blkOk_by (by rfl)) (fun _ _ _ _ _ => (fg_nm (i := 4) sc_law_is_apart.nd rfl (.inl rfl))) (fun _ _ _ _ _ => ft_yes) (fun _ _ _ _ _ => (e_le (fd_var 4) (fd_var 2)))) fa_nil)))))), hg, F.kp, hb⟩
abbrev s_law_rank : Stmt := topS 46
theorem sc_law_rank : FnScope ["things", "lots", "lot", "thing"] ["things", "lots"] (defScope s_law_rank) := ⟨rfl, rfl, rfl, by decide +kernel, rfl, by decide +kernel, by decide +kernel⟩
theorem ok_law_rank {a : Addr} {fd : FuncData} (F : Fun K "_law_rank" "_law_rank" s_law_rank a fd) (hg : mg "_law_rank" = some (.ref a)) (hb : Binds K fd ["things", "lots"] []) (B : Bi mg) : FnD P w K mg base Tb "_law_rank" 1 m_law_rank := ⟨a, fd, ["things", "lots"], fn_okD F sc_law_rank fun cdv A outer s H E hr => 
  (fs_one (fs_ret (e_max B (fa_cons (fd_lc rfl sc_law_rank.nd (fi_seq (fd_var 1)) (own := [("lot", 2)]) (blkOk_by (by rfl)) (fun _ _ _ _ _ => (fg_nm (i := 2) sc_law_rank.nd rfl (.inl rfl))) (fun _ _ _ _ _ => ft_yes) (fun _ _ _ _ _ => (e_len B (fa_cons (fd_lc rfl sc_law_rank.nd (fi_seq (fd_var 2)) (own := [("thing", 3)]) (blkOk_by (by rfl)) (fun _ _ _ _ _ => (fg_nm (i := 3) sc_law_rank.nd rfl (.inl rfl))) (fun _ _ _ _ _ => (ft_one (t_in hr (fd_var 3) (fd_var 0)))) (fun _ _ _ _ _ => (fd_var 3))) fa_nil)))) fa_nil)))), hg, F.kp, hb⟩
abbrev s_law_bars : Stmt := topS 49
theorem sc_law_bars : FnScope ["offers", "limit", "things", "outside", "held", "offer"] ["offers", "limit", "things"] (defScope s_law_bars) := ⟨rfl, rfl, rfl, by decide +kernel, rfl, by decide +kernel, by decide +kernel⟩
theorem ok_law_bars {a : Addr} {fd : FuncData} (F : Fun K "_law_bars" "_law_bars" s_law_bars a fd) (D_law_rank : FnD P w K mg base Tb "_law_rank" 1 m_law_rank) (hg : mg "_law_bars" = some (.ref a)) (hb : Binds K fd ["offers", "limit", "things"] []) (B : Bi mg) : FnD P w K mg base Tb "_law_bars" 2 m_law_bars := ⟨a, fd, ["offers", "limit", "things"], fn_okD F sc_law_bars fun cdv A outer s H E hr => 
  (fs_cons (fs_set (i := 3) sc_law_bars.nd rfl (.inl rfl) (fd_mul (fd_var 1) (fd_sub (e_ix (e_ix (fd_var 0) fd_int) fd_int) (e_len B (fa_cons (fd_var 2) fa_nil))))) (fs_cons (fs_set (i := 4) sc_law_bars.nd rfl (.inl rfl) (e_sum B (fa_cons (fd_lc rfl sc_law_bars.nd (fi_seq (fd_var 0)) (own := [("offer", 5)]) (blkOk_by (by rfl)) (fun _ _ _ _ _ => (fg_nm (i := 5) sc_law_bars.nd rfl (.inl rfl))) (fun _ _ _ _ _ => ft_yes) (fun _ _ _ _ _ => (e_call D_law_rank (fun σ => lets0 σ) hr (fa_cons (fd_var 2) (fa_cons (e_ix (fd_var 5) fd_int) fa_nil))))) fa_nil))) (fs_one (fs_ret (e_lt (fd_add (fd_var 3) (fd_var 4)) (e_sum B (fa_cons (fd_lc rfl sc_law_bars.nd (fi_seq (fd_var 0)) (own := [("offer", 5)]) (blkOk_by (by rfl)) (fun _ _ _ _ _ => (fg_nm (i := 5) sc_law_bars.nd rfl (.inl rfl))) (fun _ _ _ _ _ => ft_yes) (fun _ _ _ _ _ => (e_len B (fa_cons (e_ix (e_ix (fd_var 5) fd_int) fd_int) fa_nil)))) fa_nil))))))), hg, F.kp, hb⟩
abbrev s_law_side : Stmt := topS 50
theorem sc_law_side : FnScope ["offers", "limit", "turned", "things", "told"] ["offers", "limit", "turned"] (defScope s_law_side) := ⟨rfl, rfl, rfl, by decide +kernel, rfl, by decide +kernel, by decide +kernel⟩
theorem ok_law_side {a : Addr} {fd : FuncData} (F : Fun K "_law_side" "_law_side" s_law_side a fd) (D_bar : FnD P w K mg base Tb "bar" 9 m_bar) (D_apart : FnD P w K mg base Tb "apart" 9 m_apart) (D_law_is_apart : FnD P w K mg base Tb "_law_is_apart" 3 m_law_is_apart) (D_law_is_set : FnD P w K mg base Tb "_law_is_set" 2 m_law_is_set) (D_law_bars : FnD P w K mg base Tb "_law_bars" 2 m_law_bars) (hg : mg "_law_side" = some (.ref a)) (hb : Binds K fd ["offers", "limit", "turned"] []) (B : Bi mg) : FnD P w K mg base Tb "_law_side" 10 m_law_side := ⟨a, fd, ["offers", "limit", "turned"], fn_okD F sc_law_side fun cdv A outer s H E hr => 
  (fs_cons (fs_if (ft_val (fd_var 2)) (fs_cons (fs_set (i := 3) sc_law_side.nd rfl (.inl rfl) (e_call D_bar (fun σ => lets_of (L2N.takes_of rfl rfl rfl rfl) σ) hr (fa_cons (fd_var 0) (fa_cons (fd_var 1) fa_nil)))) (fs_one (fs_set (i := 4) sc_law_side.nd rfl (.inl rfl) (e_call D_apart (fun σ => lets_of (L2N.takes_of rfl rfl rfl rfl) σ) hr (fa_cons (fd_var 0) (fa_cons (fd_var 1) fa_nil)))))) (fs_cons (fs_set (i := 4) sc_law_side.nd rfl (.inl rfl) (e_call D_apart (fun σ => lets_of (L2N.takes_of rfl rfl rfl rfl) σ) hr (fa_cons (fd_var 0) (fa_cons (fd_var 1) fa_nil)))) (fs_one (fs_set (i := 3) sc_law_side.nd rfl (.inl rfl) (e_call D_bar (fun σ => lets_of (L2N.takes_of rfl rfl rfl rfl) σ) hr (fa_cons (fd_var 0) (fa_cons (fd_var 1) fa_nil))))))) (fs_cons (fs_if (PW.pt (fw_and (ft_isN (fd_var 3)) (fw_and (ft_notN (fd_var 4)) (fw_and1 (ft_val (e_call D_law_is_apart (fun σ => lets_of (L2N.takes_of rfl rfl rfl rfl) σ) hr (fa_cons (fd_var 4) (fa_cons (fd_var 0) (fa_cons (fd_var 1) fa_nil))))))))) (fs_one (fs_ret fd_str)) fs_nil) (fs_cons (fs_if (PW.pt (fw_and (ft_isN (fd_var 4)) (fw_and (ft_notN (fd_var 3)) (fw_and1 (ft_val (e_call D_law_is_set (fun σ => lets_of (L2N.takes_of rfl rfl rfl rfl) σ) hr (fa_cons (fd_var 3) (fa_cons (e_ix (e_ix (fd_var 0) fd_int) fd_int) fa_nil)))))))) (fs_one (fs_if (ft_val (e_call D_law_bars (fun σ => lets_of (L2N.takes_of rfl rfl rfl rfl) σ) hr (fa_cons (fd_var 0) (fa_cons (fd_var 1) (fa_cons (fd_var 3) fa_nil))))) (fs_one (fs_ret fd_str)) fs_nil)) fs_nil) (fs_one (fs_ret fd_str))))), hg, F.kp, hb⟩
abbrev s_things_in_a_lot : Stmt := topS 35
theorem sc_things_in_a_lot : FnScope ["offer"] ["offer"] (defScope s_things_in_a_lot) := ⟨rfl, rfl, rfl, by decide +kernel, rfl, by decide +kernel, by decide +kernel⟩
theorem ok_things_in_a_lot {a : Addr} {fd : FuncData} (F : Fun K "_things_in_a_lot" "_things_in_a_lot" s_things_in_a_lot a fd) (hg : mg "_things_in_a_lot" = some (.ref a)) (hb : Binds K fd ["offer"] []) (B : Bi mg) : FnD P w K mg base Tb "_things_in_a_lot" 1 m_things_in_a_lot := ⟨a, fd, ["offer"], fn_okD F sc_things_in_a_lot fun cdv A outer s H E hr => 
  (fs_one (fs_ret (e_len B (fa_cons (e_ix (e_ix (fd_var 0) fd_int) fd_int) fa_nil)))), hg, F.kp, hb⟩
abbrev s_union : Stmt := topS 6
theorem sc_union : FnScope ["first", "second"] ["first", "second"] (defScope s_union) := ⟨rfl, rfl, rfl, by decide +kernel, rfl, by decide +kernel, by decide +kernel⟩
theorem ok_union {a : Addr} {fd : FuncData} (F : Fun K "union" "union" s_union a fd) (hg : mg "union" = some (.ref a)) (hb : Binds K fd ["first", "second"] []) (B : Bi mg) : FnD P w K mg base Tb "union" 1 m_union := ⟨a, fd, ["first", "second"], fn_okD F sc_union fun cdv A outer s H E hr => 
  (fs_one (fs_ret (e_tuple B (fa_cons (fd_sortSet B (fd_add (fd_var 0) (fd_var 1))) fa_nil)))), hg, F.kp, hb⟩
abbrev s_together : Stmt := topS 33
theorem sc_together : FnScope ["first", "second", "unions", "most", "lot", "other", "things"] ["first", "second"] (defScope s_together) := ⟨rfl, rfl, rfl, by decide +kernel, rfl, by decide +kernel, by decide +kernel⟩
theorem ok_together {a : Addr} {fd : FuncData} (F : Fun K "together" "together" s_together a fd) (D_union : FnD P w K mg base Tb "union" 1 m_union) (hg : mg "together" = some (.ref a)) (hb : Binds K fd ["first", "second"] []) (B : Bi mg) : FnD P w K mg base Tb "together" 2 m_together := ⟨a, fd, ["first", "second"], fn_okD F sc_together fun cdv A outer s H E hr => 
  (fs_cons (fs_set (i := 2) sc_together.nd rfl (.inl rfl) (fd_sortSc2 hr B rfl sc_together.nd (fi_seq (e_ix (fd_var 0) fd_int)) (own := [("lot", 4), ("other", 5)]) (vs1 := [5]) (blkOk_by (by rfl)) (fun _ _ _ _ _ => (fg_nm (i := 4) sc_together.nd rfl (.inl rfl))) (fun _ _ _ _ _ => ft_yes) (fun _ _ _ _ _ => (fi_seq (e_ix (fd_var 1) fd_int))) (fun _ _ _ _ _ => (fg_nm (i := 5) sc_together.nd rfl (.inl rfl))) (fun _ _ _ _ _ => ft_yes) (fun _ _ _ _ _ => (e_call D_union (fun σ => lets0 σ) hr (fa_cons (fd_var 4) (fa_cons (fd_var 5) fa_nil)))))) (fs_cons (fs_set (i := 3) sc_together.nd rfl (.inr rfl) (e_max B (fa_cons (fd_lc rfl sc_together.nd (fi_seq (fd_var 2)) (own := [("things", 6)]) (blkOk_by (by rfl)) (fun _ _ _ _ _ => (fg_nm (i := 6) sc_together.nd rfl (.inl rfl))) (fun _ _ _ _ _ => ft_yes) (fun _ _ _ _ _ => (e_len B (fa_cons (fd_var 6) fa_nil)))) fa_nil))) (fs_one (fs_ret (fd_tup (fa_cons (e_ix (fd_var 0) fd_int) (fa_cons (e_tuple B (fa_cons (fd_lc rfl sc_together.nd (fi_seq (fd_var 2)) (own := [("things", 6)]) (blkOk_by (by rfl)) (fun _ _ _ _ _ => (fg_nm (i := 6) sc_together.nd rfl (.inl rfl))) (fun _ _ _ _ _ => (ft_one (t_eq hr (e_len B (fa_cons (fd_var 6) fa_nil)) (fd_var 3)))) (fun _ _ _ _ _ => (fd_var 6))) fa_nil)) fa_nil))))))), hg, F.kp, hb⟩
abbrev s_spare : Stmt := topS 34
theorem sc_spare : FnScope ["first", "second"] ["first", "second"] (defScope s_spare) := ⟨rfl, rfl, rfl, by decide +kernel, rfl, by decide +kernel, by decide +kernel⟩
theorem ok_spare {a : Addr} {fd : FuncData} (F : Fun K "spare" "spare" s_spare a fd) (D_things_in_a_lot : FnD P w K mg base Tb "_things_in_a_lot" 1 m_things_in_a_lot) (D_together : FnD P w K mg base Tb "together" 2 m_together) (hg : mg "spare" = some (.ref a)) (hb : Binds K fd ["first", "second"] []) (B : Bi mg) : FnD P w K mg base Tb "spare" 3 m_spare := ⟨a, fd, ["first", "second"], fn_okD F sc_spare fun cdv A outer s H E hr => 
  (fs_one (fs_ret (fd_sub (fd_add (e_call D_things_in_a_lot (fun σ => lets_of (L2N.takes_of rfl rfl rfl rfl) σ) hr (fa_cons (fd_var 0) fa_nil)) (e_call D_things_in_a_lot (fun σ => lets_of (L2N.takes_of rfl rfl rfl rfl) σ) hr (fa_cons (fd_var 1) fa_nil))) (e_call D_things_in_a_lot (fun σ => lets_of (L2N.takes_of rfl rfl rfl rfl) σ) hr (fa_cons (e_call D_together (fun σ => lets_of (L2N.takes_of rfl rfl rfl rfl) σ) hr (fa_cons (fd_var 0) (fa_cons (fd_var 1) fa_nil))) fa_nil))))), hg, F.kp, hb⟩
abbrev s_law : Stmt := topS 51
theorem sc_law : FnScope ["script", "draws", "count", "size", "limit", "turned", "offers", "here", "number"] ["script"] (defScope s_law) := ⟨rfl, rfl, rfl, by decide +kernel, rfl, by decide +kernel, by decide +kernel⟩
theorem okF_law {a : Addr} {fd : FuncData} (F : Fun K "law" "law" s_law a fd) (D_law_draws : FnD P w K mg base Tb "_law_draws" 1 m_law_draws) (D_law_offers : FnD P w K mg base Tb "_law_offers" 3 m_law_offers_k50) (D_law_side : FnD P w K mg base Tb "_law_side" 10 m_law_side) (D_spare : FnD P w K mg base Tb "spare" 3 m_spare) (D_law_cell : FnD P w K mg base Tb "_law_cell" 1 m_law_cell) (D_law_is_integer : FnD P w K mg base Tb "_law_is_integer" 1 m_law_is_integer) (B : Bi mg) : FnOk P w K mg base (L2N.CX P w) 11 a fd ["script"] (spD K Tb m_law_k52) := fn_okD F sc_law fun cdv A outer s H E hr => 
  (fs_cons (fs_set (i := 1) sc_law.nd rfl (.inl rfl) (e_call D_law_draws (fun σ => lets_of (L2N.takes_of rfl rfl rfl rfl) σ) hr (fa_cons (e_call D_law_cell (fun σ => lets_of (L2N.takes_of rfl rfl rfl rfl) σ) hr (fa_cons (fd_var 0) (fa_cons fd_int fa_nil))) (fa_cons fd_int fa_nil)))) (fs_cons (fs_set (i := 2) sc_law.nd rfl (.inl rfl) (e_ix (fd_tup (fa_cons fd_int (fa_cons fd_int (fa_cons fd_int (fa_cons fd_int (fa_cons fd_int (fa_cons fd_int (fa_cons fd_int (fa_cons fd_int fa_nil))))))))) (fd_mod (e_int B (fa_cons (e_ix (fd_var 1) fd_int) fa_nil)) fd_int))) (fs_cons (fs_set (i := 3) sc_law.nd rfl (.inl rfl) (e_ix (fd_tup (fa_cons fd_int (fa_cons fd_int (fa_cons fd_int (fa_cons fd_int (fa_cons fd_int (fa_cons fd_int (fa_cons fd_int (fa_cons fd_int fa_nil))))))))) (fd_mod (e_int B (fa_cons (e_ix (fd_var 1) fd_int) fa_nil)) fd_int))) (fs_cons (fs_set (i := 4) sc_law.nd rfl (.inl rfl) (e_ix (fd_tup (fa_cons fd_int (fa_cons fd_int (fa_cons fd_int (fa_cons fd_int (fa_cons fd_int (fa_cons fd_int (fa_cons fd_int (fa_cons fd_int fa_nil))))))))) (fd_mod (e_int B (fa_cons (e_ix (fd_var 1) fd_int) fa_nil)) fd_int))) (fs_cons (fs_set (i := 5) sc_law.nd rfl (.inl rfl) (e_eq hr (fd_mod (e_int B (fa_cons (e_ix (fd_var 1) fd_int) fa_nil)) fd_int) fd_int)) (fs_cons (fs_set (i := 6) sc_law.nd rfl (.inl rfl) (e_call D_law_offers (fun σ => lets_of (L2N.takes_of rfl rfl rfl rfl) σ) hr (fa_cons (fd_var 0) (fa_cons fd_int (fa_cons (fd_var 3) (fa_cons (fd_var 2) fa_nil)))))) (fs_cons (fs_set (i := 7) sc_law.nd rfl (.inl rfl) (e_call D_law_side (fun σ => lets_of (L2N.takes_of rfl rfl rfl rfl) σ) hr (fa_cons (fd_var 6) (fa_cons (fd_var 4) (fa_cons (fd_var 5) fa_nil))))) (fs_cons (fs_if (PW.pt (fw_or (t_eq hr (fd_var 7) fd_str) (fw_or1 (t_ne hr (e_call D_law_side (fun σ => lets_of (L2N.takes_of rfl rfl rfl rfl) σ) hr (fa_cons (fd_var 6) (fa_cons (fd_var 2) (fa_cons (fd_var 5) fa_nil)))) fd_str)))) (fs_one (fs_ret fd_bl)) fs_nil) (fs_cons (fs_if (PW.pt (fw_and (t_eq hr (fd_var 7) fd_str) (fw_and1 (t_ne hr (e_call D_law_side (fun σ => lets_of (L2N.takes_of rfl rfl rfl rfl) σ) hr (fa_cons (fd_var 6) (fa_cons (fd_add (fd_var 4) fd_int) (fa_cons (fd_var 5) fa_nil)))) fd_str)))) (fs_one (fs_ret fd_bl)) fs_nil) (fs_cons (fs_if (PW.pt (fw_and (t_eq hr (fd_var 7) fd_str) (fw_and (t_gt (fd_var 4) fd_int) (fw_and1 (t_ne hr (e_call D_law_side (fun σ => lets_of (L2N.takes_of rfl rfl rfl rfl) σ) hr (fa_cons (fd_var 6) (fa_cons (fd_sub (fd_var 4) fd_int) (fa_cons (fd_var 5) fa_nil)))) fd_str))))) (fs_one (fs_ret fd_bl)) fs_nil) (fs_cons (fs_if (t_eq hr (fd_var 2) fd_int) (fs_one (fs_ret fd_bl)) fs_nil) (fs_cons (fs_set (i := 8) sc_law.nd rfl (.inl rfl) (e_call D_spare (fun σ => lets_of (L2N.takes_of rfl rfl rfl rfl) σ) hr (fa_cons (e_ix (fd_var 6) fd_int) (fa_cons (e_ix (fd_var 6) fd_int) fa_nil)))) (fs_cons (fs_if (ft_not (ft_val (e_call D_law_is_integer (fun σ => lets_of (L2N.takes_of rfl rfl rfl rfl) σ) hr (fa_cons (fd_var 8) fa_nil)))) (fs_one (fs_ret fd_bl)) fs_nil) (fs_one (fs_ret (e_eq hr (e_eq hr (e_call D_law_side (fun σ => lets_of (L2N.takes_of rfl rfl rfl rfl) σ) hr (fa_cons (fd_cut (fd_var 6) fo_none (fo_some fd_int)) (fa_cons fd_int (fa_cons (fd_var 5) fa_nil)))) fd_str) (e_eq hr (fd_var 8) fd_int)))))))))))))))))
end
end LW
set_option Elab.async false
set_option maxRecDepth 100000
set_option linter.all false
set_option maxHeartbeats 2000000
namespace LW
open PySem PySem.Spec PyProof.Rows L2 PD
theorem v_integer (x : Int) : m_law_is_integer [.int x] = .ok (.bool true) := by
  show endR (g_law_is_integer [some (.d (.int x))]) = _
  simp [g_law_is_integer, isi_int, isi_bool]
theorem v_cell (ns : List Int) (k : Int) (h : 0 ≤ k) : ∃ c : Int, m_law_cell [li ns, .int k] = .ok (.int c) := by
  show ∃ c : Int, endR (g_law_cell [some (.d (li ns)), some (.d (.int k))]) = _
  by_cases hk : k < (ns.length : Int)
  · have hl : k.toNat < ns.length := by omega
    refine ⟨ns[k.toNat], ?_⟩
    simp [g_law_cell, hk, oIx_li h (List.getElem?_eq_getElem hl)]
  · refine ⟨5 * k + 3, ?_⟩
    simp [g_law_cell, hk, oMul_l]
theorem v_draws (c n : Int) (h0 : 0 ≤ n) (h1 : n ≤ 1000) : ∃ L : List Int, m_law_draws [.int c, .int n] = .ok (li L) ∧ L.length = n.toNat ∧ ∀ x ∈ L, 0 ≤ x ∧ x < 5040 := by
  show ∃ L : List Int, endR (g_law_draws [some (.d (.int c)), some (.d (.int n)), none, none, none, none, none, none]) = _ ∧ _
  have key := forGo_inv (i := 6) (g := b_law_draws_1) (enc := PyData.int) (fun xs ρ => ∃ (rest seed : Int) (dg : Bool) (L : List Int) (o6 o7 : Option Sl),
    ρ = [some (.d (.int c)), some (.d (.int n)), some (.d (.int rest)), some (.d (.bool dg)), some (.d (.int seed)), some (.own (L.map .int)), o6, o7] ∧ L.length + xs.length = n.toNat ∧ ∀ x ∈ L, 0 ≤ x ∧ x < 5040) (by
    rintro k xs ρ ⟨rest, seed, dg, L, o6, o7, rfl, hl, hL⟩
    have hl' : L.length + (xs.length + 1) = n.toNat := by simpa using hl
    have hs : L.length < sizeLine := line_lt (by omega)
    have app : ∀ y : Int, 0 ≤ y → y < 5040 → ∀ x ∈ L ++ [y], 0 ≤ x ∧ x < 5040 := fun y a b x hx => by
      rcases List.mem_append.mp hx with hx | hx
      · exact hL x hx
      · rw [List.mem_singleton.mp hx]; exact ⟨a, b⟩
    by_cases hb : dg = true ∧ 0 < rest
    · obtain ⟨rfl, hr⟩ := hb
      refine ⟨[some (.d (.int c)), some (.d (.int n)), some (.d (.int (rest.fdiv 5040))), some (.d (.bool true)), some (.d (.int seed)), some (.own ((L ++ [rest.fmod 5040]).map .int)), some (.d (.int k)), o7], ?_, rest.fdiv 5040, seed, true, L ++ [rest.fmod 5040], _, _, rfl, by simp; omega, app _ (fmod_lo _ (by decide)) (fmod_hi _ (by decide))⟩
      simp [b_law_draws_1, hr, oMod_int, oDiv_lit, hs]
    · have hc : (if dg = true then decide (0 < rest) else false) = false := by
        cases dg <;> simp_all
      have m1 := fmod_lo (seed * 48271 + (k + 1) * 69621 + 11) (b := 2147483647) (by decide)
      have m2 := fmod_hi (seed * 48271 + (k + 1) * 69621 + 11) (b := 2147483647) (by decide)
      generalize hm : (seed * 48271 + (k + 1) * 69621 + 11).fmod 2147483647 = mx at m1 m2
      refine ⟨[some (.d (.int c)), some (.d (.int n)), some (.d (.int rest)), some (.d (.bool dg)), some (.d (.int seed)), some (.own ((L ++ [(((mx * mx + 40692 * (k + 3)).fmod 2147483399).fdiv 64).fmod 5040]).map .int)), some (.d (.int k)), some (.d (.int ((mx * mx + 40692 * (k + 3)).fmod 2147483399)))], ?_,
        rest, seed, dg, L ++ [(((mx * mx + 40692 * (k + 3)).fmod 2147483399).fdiv 64).fmod 5040], _, _, rfl, by simp; omega, app _ (fmod_lo _ (by decide)) (fmod_hi _ (by decide))⟩
      have e1 : oMul (.int mx) (.int mx) = .ok (.int (mx * mx)) := oMul_l (by omega) (by omega)
      simp [b_law_draws_1, hc, oMod_int, oDiv_lit, hs, oMul_r, oMul_l, hm, e1]
      exact fun a b => absurd ⟨a, b⟩ hb)
  obtain ⟨ρ', e, rest, seed, dg, L, o6, o7, rfl, hl, hL⟩ := key (rangeI 0 n) [some (.d (.int c)), some (.d (.int n)), some (.d (.int (if c < 0 then -c else c))), some (.d (.bool (decide (1000000000000000000 ≤ (if c < 0 then -c else c))))), some (.d (.int (if c < 0 then -c else c))), some (.own []), none, none]
    ⟨_, _, _, [], none, none, rfl, by rw [rangeI_len]; simp, by simp⟩
  refine ⟨L, ?_, by simpa using hl, hL⟩
  simp [g_law_draws, rngA1_ok (show n ≤ 100000 by omega) (show -1000 ≤ n by omega), e]
def Asc (n : Int) (l : List Int) : Prop := l.Pairwise (· < ·) ∧ ∀ x ∈ l, 0 ≤ x ∧ x < n
theorem asc_len' : ∀ (l : List Int) (lo n : Int), l.Pairwise (· < ·) → (∀ x ∈ l, lo ≤ x ∧ x < n) → l.length ≤ (n - lo).toNat
  | [], _, _, _, _ => Nat.zero_le _
  | x :: xs, lo, n, h, b => by
    obtain ⟨h1, h2⟩ := List.pairwise_cons.mp h
    obtain ⟨b1, b2⟩ := b x List.mem_cons_self
    have ih := asc_len' xs (x + 1) n h2 fun y hy => ⟨by have := h1 y hy; omega, (b y (List.mem_cons_of_mem _ hy)).2⟩
    rw [List.length_cons]; omega
theorem Asc.len {n : Int} {l : List Int} (h : Asc n l) : l.length ≤ n.toNat := by
  have := asc_len' l 0 n h.1 h.2
  rwa [Int.sub_zero] at this
theorem Asc.nil (n : Int) : Asc n [] := ⟨.nil, by simp⟩
theorem asc_succ {k : Int} (hk : 0 ≤ k) {r : List Int} : Asc (k + 1) r ↔ Asc k r ∨ ∃ r', Asc k r' ∧ r' ++ [k] = r := by
  constructor
  · intro ⟨h1, h2⟩
    rcases List.eq_nil_or_concat r with rfl | ⟨r', z, rfl⟩
    · exact .inl (Asc.nil _)
    · rw [List.concat_eq_append] at h1 h2 ⊢
      obtain ⟨p1, _, p3⟩ := List.pairwise_append.mp h1
      have hz := h2 z (by simp)
      have hr : ∀ x ∈ r', x < z := fun x hx => p3 x hx z (by simp)
      by_cases e : z = k
      · subst e
        exact .inr ⟨r', ⟨p1, fun x hx => ⟨(h2 x (by simp [hx])).1, hr x hx⟩⟩, rfl⟩
      · refine .inl ⟨h1, fun x hx => ⟨(h2 x hx).1, ?_⟩⟩
        rcases List.mem_append.mp hx with hx | hx
        · have := hr x hx; omega
        · rw [List.mem_singleton.mp hx]; omega
  · rintro (⟨h1, h2⟩ | ⟨r', ⟨h1, h2⟩, rfl⟩)
    · exact ⟨h1, fun x hx => ⟨(h2 x hx).1, by have := (h2 x hx).2; omega⟩⟩
    · refine ⟨List.pairwise_append.mpr ⟨h1, List.pairwise_singleton _ _, fun a ha b hb => ?_⟩, fun x hx => ?_⟩
      · rw [List.mem_singleton.mp hb]; exact (h2 a ha).2
      · rcases List.mem_append.mp hx with hx | hx
        · have := h2 x hx; omega
        · rw [List.mem_singleton.mp hx]; omega
theorem rangeI_cons {k n : Int} (h : k < n) : rangeI k n = k :: rangeI (k + 1) n := by
  unfold rangeI
  have e : (n - k).toNat = (n - (k + 1)).toNat + 1 := by omega
  rw [e, List.range_succ_eq_map, List.map_cons, List.map_map]
  congr 1
  · simp
  · refine List.map_congr_left fun i _ => ?_
    show k + ((i + 1 : Nat) : Int) = k + 1 + (i : Int)
    omega
theorem rangeI_nil {k n : Int} (h : n ≤ k) : rangeI k n = [] := by
  unfold rangeI
  rw [show (n - k).toNat = 0 by omega]; rfl
theorem rangeI_inv {k n : Int} {x : Int} {xs : List Int} (h : x :: xs = rangeI k n) : k < n ∧ x = k ∧ xs = rangeI (k + 1) n := by
  by_cases hk : k < n
  · rw [rangeI_cons hk] at h
    exact ⟨hk, (List.cons.inj h).1, (List.cons.inj h).2⟩
  · rw [rangeI_nil (by omega)] at h; cases h
theorem lcR_mem {α β : Type} {f : α → R β} {g : α → β} {xs : List α} (h : ∀ x ∈ xs, f x = .ok (g x)) : lcR (fun _ => .ok true) f xs = .ok (xs.map g) := by
  have := lcR_of (p := fun _ => .ok true) (q := fun _ => true) (g := g) (xs := xs) fun x hx => ⟨rfl, fun _ => h x hx⟩
  rw [this, List.filter_eq_self.mpr (fun _ _ => rfl)]
end LW
set_option Elab.async false
set_option maxRecDepth 100000
set_option linter.all false
set_option maxHeartbeats 2000000
namespace LW
open PySem PySem.Spec PyProof.Rows L2 PD
def ixv (L : List Int) (i : Int) : Int := (L[i.toNat]?).getD 0
def ixr (L : List (List Int)) (i : Int) : List Int := (L[i.toNat]?).getD []
theorem ix_li {L : List Int} {i : Int} (h0 : 0 ≤ i) (h1 : i < (L.length : Int)) : oIx (li L) (.int i) = .ok (.int (ixv L i)) := by
  have hl : i.toNat < L.length := by omega
  unfold ixv
  rw [oIx_li h0 (List.getElem?_eq_getElem hl), List.getElem?_eq_getElem hl]; rfl
theorem ix_tu {L : List Int} {i : Int} (h0 : 0 ≤ i) (h1 : i < (L.length : Int)) : oIx (tu L) (.int i) = .ok (.int (ixv L i)) := by
  have hl : i.toNat < L.length := by omega
  unfold ixv
  rw [oIx_tu h0 (List.getElem?_eq_getElem hl), List.getElem?_eq_getElem hl]; rfl
theorem ix_lt {L : List (List Int)} {i : Int} (h0 : 0 ≤ i) (h1 : i < (L.length : Int)) : oIx (lt L) (.int i) = .ok (tu (ixr L i)) := by
  have hl : i.toNat < L.length := by omega
  unfold ixr
  rw [oIx_lt h0 (List.getElem?_eq_getElem hl), List.getElem?_eq_getElem hl]; rfl
theorem ixv_mem {L : List Int} {i : Int} (h0 : 0 ≤ i) (h1 : i < (L.length : Int)) : ixv L i ∈ L := by
  have hl : i.toNat < L.length := by omega
  unfold ixv
  rw [List.getElem?_eq_getElem hl]; exact List.getElem_mem hl
theorem ixr_mem {L : List (List Int)} {i : Int} (h0 : 0 ≤ i) (h1 : i < (L.length : Int)) : ixr L i ∈ L := by
  have hl : i.toNat < L.length := by omega
  unfold ixr
  rw [List.getElem?_eq_getElem hl]; exact List.getElem_mem hl
theorem v_rest (row : List Int) (n : Int) (h0 : 0 ≤ n) (h1 : n ≤ 1000) : m_law_rest [tu row, .int n] = .ok (tu ((rangeI 0 n).filter fun x => !decide (x ∈ row))) := by
  show endR (g_law_rest [some (.d (tu row)), some (.d (.int n)), none]) = _
  simp [g_law_rest, rngA1_ok (show n ≤ 100000 by omega) (show -1000 ≤ n by omega)]
theorem v_count (row cl : List Int) (c : Int) (h : ∀ x ∈ row, 0 ≤ x ∧ x < (cl.length : Int)) : m_law_count [tu row, li cl, .int c] = .ok (.int (row.filter fun x => ixv cl x == c).length) := by
  show endR (g_law_count [some (.d (tu row)), some (.d (li cl)), some (.d (.int c)), none]) = _
  simp [g_law_count]
  rw [lcR_of (q := fun x => ixv cl x == c) (g := fun x => PyData.int x)]
  · simp
  · intro x hx
    simp [ix_li (h x hx).1 (h x hx).2]
theorem v_leave_out (l : List Int) (x : Int) : m_leave_out [tu l, .int x] = .ok (tu (l.filter (fun y => !(y == x)))) := by
  show endR (g_leave_out [some (.d (tu l)), some (.d (.int x)), none]) = _
  simp [g_leave_out]
def gone (x : Int) (l : List Int) : List Int := (l.filter (fun y => !(y == x))).map fun y => if x < y then y - 1 else y
end LW
set_option Elab.async false
set_option maxRecDepth 100000
set_option linter.all false
set_option maxHeartbeats 2000000
namespace LW
open PySem PySem.Spec PyProof.Rows L2 PD
theorem asc_ix {l : List Int} (h : l.Pairwise (· < ·)) {i j : Int} (h0 : 0 ≤ i) (h1 : i < j) (h2 : j < (l.length : Int)) : ixv l i < ixv l j := by
  have a : i.toNat < l.length := by omega
  have b : j.toNat < l.length := by omega
  unfold ixv
  rw [List.getElem?_eq_getElem a, List.getElem?_eq_getElem b]
  exact List.pairwise_iff_getElem.mp h i.toNat j.toNat a b (by omega)
theorem v_is_set (l : List Int) (n : Int) (h : Asc n l) (hl : l.length ≤ 1000) : m_law_is_set [tu l, .int n] = .ok (.bool true) := by
  show endR (g_law_is_set [some (.d (tu l)), some (.d (.int n)), none]) = _
  have key := forGo_inv (i := 2) (g := b_law_is_set_1) (enc := PyData.int) (fun xs ρ => ∃ o2, ρ = [some (.d (tu l)), some (.d (.int n)), o2] ∧ ∀ k ∈ xs, 0 ≤ k ∧ k < (l.length : Int)) (by
    rintro k xs ρ ⟨o2, rfl, hk⟩
    obtain ⟨k0, k1⟩ := hk k List.mem_cons_self
    refine ⟨[some (.d (tu l)), some (.d (.int n)), some (.d (.int k))], ?_, _, rfl, fun y hy => hk y (List.mem_cons_of_mem _ hy)⟩
    have e := ix_tu (L := l) k0 k1
    have m := h.2 _ (ixv_mem k0 k1)
    have a1 : ¬ ixv l k < 0 := by omega
    have a2 : ¬ n ≤ ixv l k := by omega
    by_cases hp : 0 < k
    · have e2 := ix_tu (L := l) (i := k - 1) (by omega) (by omega)
      have a3 := asc_ix h.1 (i := k - 1) (j := k) (by omega) (by omega) k1
      have a4 : ¬ ixv l k ≤ ixv l (k - 1) := by omega
      simp [b_law_is_set_1, e, v_integer, a1, a2, hp, e2, a4]
    · simp [b_law_is_set_1, e, v_integer, a1, a2, hp])
  obtain ⟨ρ', e, o2, rfl, _⟩ := key (rangeI 0 l.length) [some (.d (tu l)), some (.d (.int n)), none] ⟨none, rfl, fun k hk => mem_rangeI.mp hk⟩
  simp [g_law_is_set, isi_tu, rngA1_ok (n := (l.length : Int)) (by omega) (by omega), e]
theorem asc_rest (n : Int) (p : Int → Bool) : Asc n ((rangeI 0 n).filter p) := ⟨(rangeI_asc 0 n).filter p, fun x hx => mem_rangeI.mp (List.mem_filter.mp hx).1⟩
end LW
set_option Elab.async false
set_option maxRecDepth 100000
set_option linter.all false
set_option maxHeartbeats 2000000
namespace LW
open PySem PySem.Spec PyProof.Rows L2 PD
def exch (l : List Int) (x t : Int) : List Int := sortI (l.filter (fun y => !(y == x)) ++ [t])
theorem v_put_in (l : List Int) (t : Int) (h : l.length ≤ 1000) : m_put_in [tu l, .int t] = .ok (tu (sortI (l ++ [t]))) := by
  show endR (g_put_in [some (.d (tu l)), some (.d (.int t))]) = _
  have e2 := oAdd_tu (a := l) (b := [t]) (by simp; omega)
  simp [g_put_in, e2]
theorem v_exchange (l : List Int) (x t : Int) (h : l.length ≤ 1000) : m_exchange [tu l, .int x, .int t] = .ok (tu (exch l x t)) := by
  show endR (g_exchange [some (.d (tu l)), some (.d (.int x)), some (.d (.int t))]) = _
  have hl := List.length_filter_le (fun y => !(y == x)) l
  simp [g_exchange, v_leave_out, v_put_in (l.filter fun y => !(y == x)) t (by omega), exch]
theorem bTupR1_ok {n : Int} (h : rgOk 0 n = true) : bTupR1 (.int n) = .ok (tu (rangeI 0 n)) := by
  have e1 : bLstR1 (.int n) = .ok (.list (lstRg 0 n)) := if_pos h
  have e2 : bTupR1 (.int n) = .ok (.tuple (lstRg 0 n)) := if_pos h
  have e := bLstR1_ok h
  rw [e1] at e
  unfold li at e
  injection e with e
  injection e with e
  rw [e2, e]
  rfl
theorem v_difference (a b : List Int) : m_difference [tu a, tu b] = .ok (tu (a.filter fun x => !decide (x ∈ b))) := by
  show endR (g_difference [some (.d (tu a)), some (.d (tu b)), none]) = _
  simp [g_difference]
theorem v_missing (n : Int) (l : List Int) (h0 : 0 ≤ n) (h1 : n ≤ 1000) : m_things_missing [.int n, tu l] = .ok (tu ((rangeI 0 n).filter fun x => !decide (x ∈ l))) := by
  show endR (g_things_missing [some (.d (.int n)), some (.d (tu l))]) = _
  simp [g_things_missing, bTupR1_ok (rgOk_small (show -1000 ≤ n by omega) (show n ≤ 100000 by omega)), v_difference]
/-- the keys of the dict of the lots -/
def known (ls : List (List Int)) : List (List Int) := (ls.map fun l => l).foldl insK []
theorem mem_known {ls : List (List Int)} {k : List Int} : k ∈ known ls ↔ k ∈ ls := by
  unfold known
  rw [mem_foldK]; simp
theorem v_known (n : Int) (ls : List (List Int)) : m_known_lots [.tuple [.int n, tt ls]] = .ok (.dict ((known ls).map keyD)) := by
  show endR (g_known_lots [some (.d (.tuple [.int n, tt ls])), none]) = _
  have e : dDc (dItems (dTwo oIx (dVar 0) (dC (.int 1)))) (.nm 1) dYes (dVar 1) [1] [some (.d (.tuple [.int n, tt ls])), none] = .ok (.dict ((known ls).map keyD)) := by
    show (nx (dcGo (.nm 1) dYes (dVar 1) _ (ls.map tu) []) fun ks => R.ok (PyData.dict (ks.map keyD))) = _
    rw [dcGo_all (kf := fun l => l) (fun l hl => by simp)]
    rfl
  simp [g_known_lots, e]
def part (n : Int) (ls : List (List Int)) (l : List Int) (x : Int) : List Int := ((rangeI 0 n).filter fun t => !decide (t ∈ l)).filter fun t => decide (exch l x t ∈ ls)
theorem v_repl (n : Int) (ls ks : List (List Int)) (l : List Int) (x : Int) (h0 : 0 ≤ n) (h1 : n ≤ 1000) (hl : l.length ≤ 1000) (hk : ∀ k, k ∈ ks ↔ k ∈ ls) : m_replacements [.tuple [.int n, tt ls], .dict (ks.map keyD), tu l, .int x] = .ok (li (part n ls l x)) := by
  show endR (g_replacements [some (.d (.tuple [.int n, tt ls])), some (.d (.dict (ks.map keyD))), some (.d (tu l)), some (.d (.int x)), none, none]) = _
  have e : ∀ t : Int, decide (exch l x t ∈ ks) = decide (exch l x t ∈ ls) := fun t => decide_eq_decide.mpr (hk _)
  simp [g_replacements, v_missing n l h0 h1, v_exchange l x _ hl, e, part]
end LW
set_option Elab.async false
set_option maxRecDepth 100000
set_option linter.all false
set_option maxHeartbeats 2000000
namespace LW
open PySem PySem.Spec PyProof.Rows L2 PD
theorem ix_tt {L : List (List Int)} {i : Int} (h0 : 0 ≤ i) (h1 : i < (L.length : Int)) : oIx (tt L) (.int i) = .ok (tu (ixr L i)) := ix_lt (L := L) h0 h1
theorem bLen_tt (ls : List (List Int)) : bLen [tt ls] = .ok (.int ls.length) := by
  show R.ok (PyData.int ((ls.map tu).length : Int)) = _
  rw [List.length_map]
/-- what a lot does not have -/
def rest (n : Int) (l : List Int) : List Int := (rangeI 0 n).filter fun x => !decide (x ∈ l)
def rank (A : List Int) (ls : List (List Int)) : Int := maxI (ls.map fun l => ((l.filter fun x => decide (x ∈ A)).length : Int))
theorem v_rank (A : List Int) (ls : List (List Int)) (hne : ls ≠ []) : m_law_rank [tu A, tt ls] = .ok (.int (rank A ls)) := by
  show endR (g_law_rank [some (.d (tu A)), some (.d (tt ls)), none, none]) = _
  have hb := bMax_li (l := ls.map fun l => ((l.filter fun x => decide (x ∈ A)).length : Int)) (by simpa using hne)
  simp [g_law_rank, rank, hb]
end LW
set_option Elab.async false
set_option maxRecDepth 100000
set_option linter.all false
set_option maxHeartbeats 2000000
namespace LW
open PySem PySem.Spec PyProof.Rows L2 PD
theorem asc_sub : ∀ {x o : List Int}, x.Pairwise (· < ·) → o.Pairwise (· < ·) → (∀ y ∈ x, y ∈ o) → x.Sublist o
  | [], o, _, _, _ => List.nil_sublist o
  | a :: x, [], _, _, h => absurd (h a List.mem_cons_self) (by simp)
  | a :: x, b :: o, hx, ho, h => by
    obtain ⟨x1, x2⟩ := List.pairwise_cons.mp hx
    obtain ⟨o1, o2⟩ := List.pairwise_cons.mp ho
    by_cases e : a = b
    · subst e
      refine (asc_sub x2 o2 fun y hy => ?_).cons_cons a
      rcases List.mem_cons.mp (h y (List.mem_cons_of_mem _ hy)) with z | z
      · have := x1 y hy; omega
      · exact z
    · have ha : a ∈ o := (List.mem_cons.mp (h a List.mem_cons_self)).resolve_left e
      have hb := o1 a ha
      refine (asc_sub hx o2 fun y hy => ?_).cons b
      rcases List.mem_cons.mp (h y hy) with z | z
      · rcases List.mem_cons.mp hy with q | q
        · omega
        · have := x1 y q; omega
      · exact z
theorem asc_ext {x o : List Int} (hx : x.Pairwise (· < ·)) (ho : o.Pairwise (· < ·)) (h : ∀ y, y ∈ x ↔ y ∈ o) : x = o :=
  let a := asc_sub hx ho fun y hy => (h y).mp hy
  a.eq_of_length (Nat.le_antisymm a.length_le (asc_sub ho hx fun y hy => (h y).mpr hy).length_le)
theorem mem_rest {n y : Int} {l : List Int} : y ∈ rest n l ↔ (0 ≤ y ∧ y < n) ∧ ¬ y ∈ l := by
  unfold rest
  rw [List.mem_filter, mem_rangeI]
  simp
theorem rest_asc (n : Int) (l : List Int) : Asc n (rest n l) := asc_rest n _
theorem rest_rest {n : Int} {l : List Int} (h : Asc n l) : rest n (rest n l) = l := by
  refine asc_ext (rest_asc n _).1 h.1 fun y => ?_
  rw [mem_rest, mem_rest]
  constructor
  · rintro ⟨a, b⟩
    exact Classical.byContradiction fun c => b ⟨a, c⟩
  · intro c
    exact ⟨h.2 y c, fun z => z.2 c⟩
/-- what the lots do not have -/
def opp (n : Int) (ls : List (List Int)) : List (List Int) := sortT (ls.map (rest n))
def has (x : Int) (l : List Int) : Bool := decide (x ∈ l)
end LW
set_option Elab.async false
set_option maxRecDepth 100000
set_option linter.all false
set_option maxHeartbeats 2000000
namespace LW
open PySem PySem.Spec PyProof.Rows L2 PD
/-- an offer as data -/
def ofr (n : Int) (ls : List (List Int)) : PyData := .tuple [.int n, tt ls]
/-- rows that an offer can have -/
structure Good (n : Int) (ls : List (List Int)) : Prop where
  asc : ∀ l ∈ ls, Asc n l
  asd : Asd ls
  ne : ls ≠ []
  len : ls.length ≤ 1000
theorem Good.opp {n : Int} {ls : List (List Int)} (g : Good n ls) : Good n (opp n ls) := by
  refine ⟨fun l hl => ?_, asd_sortT ?_, fun z => ?_, ?_⟩
  · obtain ⟨k, _, rfl⟩ := List.mem_map.mp (mem_sortT.mp hl)
    exact rest_asc n k
  · refine List.pairwise_map.mpr (g.asd.nodup.imp_of_mem fun {a b} ha hb ne e => ne ?_)
    rw [← rest_rest (g.asc a ha), ← rest_rest (g.asc b hb), e]
  · have : (LW.opp n ls).length = 0 := by rw [z]; rfl
    unfold LW.opp at this
    rw [(sortT_perm _).length_eq, List.length_map] at this
    exact g.ne (List.eq_nil_of_length_eq_zero this)
  · unfold LW.opp
    rw [(sortT_perm _).length_eq, List.length_map]
    exact g.len
end LW
set_option Elab.async false
set_option maxRecDepth 100000
set_option linter.all false
set_option maxHeartbeats 2000000
namespace LW
open PySem PySem.Spec PyProof.Rows L2 PD
theorem sortI_eq (l : List Int) : sortI l = l.mergeSort fun a b => decide (a ≤ b) := by
  have h : sortD (l.map PyData.int) = (l.mergeSort fun a b => decide (a ≤ b)).map PyData.int := by
    unfold sortD
    refine (List.map_mergeSort (f := PyData.int) (r := fun a b => decide (a ≤ b)) (s := PySem.W.dataLe false id) (l := l) fun a _ b _ => ?_).symm
    show decide (a ≤ b) = !(PySem.W.dataLt (.int b) (.int a))
    rw [PySem.W.dataLt_int, PySem.W.not_lt_int]
  have e := (sortD_ints l).1
  rw [h] at e
  have inj : ∀ {a b : List Int}, a.map PyData.int = b.map PyData.int → a = b := fun {a b} z => by
    induction a generalizing b with
    | nil => cases b with
      | nil => rfl
      | cons y b => cases z
    | cons x a ih => cases b with
      | nil => cases z
      | cons y b =>
        rw [List.map_cons, List.map_cons] at z
        obtain ⟨z1, z2⟩ := List.cons.inj z
        rw [PyData.int.inj z1, ih z2]
  exact (inj e).symm
theorem sortI_le (l : List Int) : (sortI l).Pairwise (· ≤ ·) := by
  rw [sortI_eq]
  exact (List.pairwise_mergeSort (le := fun a b : Int => decide (a ≤ b)) (fun a b c h1 h2 => by simp only [decide_eq_true_eq] at *; omega) (fun a b => by simp only [Bool.or_eq_true, decide_eq_true_eq]; omega) l).imp fun h => of_decide_eq_true h
theorem sortI_asc {n : Int} {l : List Int} (nd : l.Nodup) (h : ∀ x ∈ l, 0 ≤ x ∧ x < n) : Asc n (sortI l) := by
  refine ⟨((sortI_le l).and ((sortD_ints l).2.nodup_iff.mpr nd)).imp fun {a b} ⟨h1, h2⟩ => by omega, fun x hx => h x (mem_sortI.mp hx)⟩
theorem Asc.nodup {n : Int} {l : List Int} (h : Asc n l) : l.Nodup := h.1.imp fun {a b} z e => by omega
theorem mem_exch {l : List Int} {x t y : Int} : y ∈ exch l x t ↔ (y ∈ l ∧ ¬ y = x) ∨ y = t := by
  unfold exch
  rw [mem_sortI, List.mem_append, List.mem_filter, List.mem_singleton]
  simp
theorem exch_asc {n x t : Int} {l : List Int} (h : Asc n l) (ht : ¬ t ∈ l) (b : 0 ≤ t ∧ t < n) : Asc n (exch l x t) := by
  unfold exch
  refine sortI_asc ?_ fun y hy => ?_
  · rw [List.nodup_append]
    refine ⟨h.nodup.filter _, by simp, fun a ha c hc e => ?_⟩
    rw [List.mem_singleton.mp hc] at e
    exact ht (e ▸ (List.mem_filter.mp ha).1)
  · rcases List.mem_append.mp hy with z | z
    · exact h.2 y (List.mem_filter.mp z).1
    · rw [List.mem_singleton.mp z]; exact b
/-- all exchanges are there -/
def Exc (ls : List (List Int)) : Prop := ∀ l ∈ ls, ∀ x ∈ l, ∀ o ∈ ls, ¬ x ∈ o → ∃ t ∈ o, ¬ t ∈ l ∧ exch l x t ∈ ls
end LW
set_option Elab.async false
set_option maxRecDepth 100000
set_option linter.all false
set_option maxHeartbeats 2000000
namespace LW
open PySem PySem.Spec PyProof.Rows L2 PD
theorem gone_len {x : Int} : ∀ {l : List Int}, l.Nodup → (gone x l).length = if x ∈ l then l.length - 1 else l.length := by
  intro l nd
  unfold gone
  rw [List.length_map]
  induction l with
  | nil => rfl
  | cons y l ih =>
    obtain ⟨h1, h2⟩ := List.nodup_cons.mp nd
    by_cases c : y = x
    · subst c
      rw [List.filter_cons_of_neg (by simp), ih h2, if_neg h1, if_pos List.mem_cons_self]
      rfl
    · rw [List.filter_cons_of_pos (by simpa using c), List.length_cons, ih h2]
      by_cases d : x ∈ l
      · rw [if_pos d, if_pos (List.mem_cons_of_mem _ d), List.length_cons]
        have := List.length_pos_of_mem d
        omega
      · rw [if_neg d, if_neg fun z => by
          rcases List.mem_cons.mp z with z | z
          · exact c z.symm
          · exact d z]
        rfl
/-- all rows have the same number of things -/
def Eqs (ls : List (List Int)) : Prop := ∀ l ∈ ls, ∀ k ∈ ls, l.length = k.length
/-- lots of which all exchanges are there, all of one size -/
structure Smooth (n : Int) (ls : List (List Int)) : Prop where
  good : Good n ls
  exc : Exc ls
  eqs : Eqs ls
end LW
set_option Elab.async false
set_option maxRecDepth 100000
set_option linter.all false
set_option maxHeartbeats 2000000
namespace LW
open PySem PySem.Spec PyProof.Rows L2 PD
/-- how many of these things a lot has -/
def cnt (A l : List Int) : Nat := (l.filter fun y => decide (y ∈ A)).length
theorem sub_len {l k : List Int} (h : l.Pairwise (· < ·)) (h' : k.Pairwise (· < ·)) (s : ∀ y ∈ l, y ∈ k) : l.length ≤ k.length := (asc_sub h h' s).length_le
/-- from a lot with x: one with x whose other things are in l -/
theorem near {n x : Int} {ls : List (List Int)} {l : List Int} (s : Smooth n ls) (hl : l ∈ ls) (hxl : ¬ x ∈ l) : ∀ (m : Nat) (k : List Int), k ∈ ls → x ∈ k → (k.filter fun y => !decide (y ∈ l)).length ≤ m → ∃ k' ∈ ls, x ∈ k' ∧ ∀ y ∈ k', ¬ y = x → y ∈ l
  | 0, k, hk, hxk, hm => by
    have e := List.eq_nil_of_length_eq_zero (Nat.le_zero.mp hm)
    have : x ∈ k.filter fun y => !decide (y ∈ l) := List.mem_filter.mpr ⟨hxk, by simpa using hxl⟩
    rw [e] at this
    cases this
  | m + 1, k, hk, hxk, hm => by
    by_cases c : ∀ y ∈ k, ¬ y = x → y ∈ l
    · exact ⟨k, hk, hxk, c⟩
    · obtain ⟨z, hz⟩ := Classical.not_forall.mp c
      obtain ⟨z1, hz⟩ := Classical.not_imp.mp hz
      obtain ⟨z2, z3⟩ := Classical.not_imp.mp hz
      obtain ⟨t, t1, t2, t3⟩ := s.exc k hk z z1 l hl z3
      refine near s hl hxl m (exch k z t) t3 (mem_exch.mpr (.inl ⟨hxk, fun e => z2 e.symm⟩)) ?_
      have ka := s.good.asc k hk
      have ea := s.good.asc _ t3
      -- z is gone from the outer part, nothing comes into it
      have sub : ((exch k z t).filter fun y => !decide (y ∈ l)).length ≤ ((k.filter fun y => !decide (y ∈ l)).filter fun y => !(y == z)).length := by
        refine sub_len (ea.1.filter _) ((ka.1.filter _).filter _) fun y hy => ?_
        obtain ⟨y1, y2⟩ := List.mem_filter.mp hy
        have y3 : ¬ y ∈ l := by simpa using y2
        rcases mem_exch.mp y1 with q | q
        · exact List.mem_filter.mpr ⟨List.mem_filter.mpr ⟨q.1, y2⟩, by simpa using q.2⟩
        · exact absurd (q ▸ t1) y3
      have one := gone_len (x := z) (l := k.filter fun y => !decide (y ∈ l)) (ka.nodup.filter _)
      unfold gone at one
      rw [List.length_map, if_pos (List.mem_filter.mpr ⟨z1, by simpa using z3⟩)] at one
      omega
end LW
set_option Elab.async false
set_option maxRecDepth 100000
set_option linter.all false
set_option maxHeartbeats 2000000
set_option Elab.async false
set_option maxRecDepth 100000
set_option linter.all false
set_option maxHeartbeats 2000000
set_option Elab.async false
set_option maxRecDepth 100000
set_option linter.all false
set_option maxHeartbeats 2000000
set_option Elab.async false
set_option maxRecDepth 100000
set_option linter.all false
set_option maxHeartbeats 2000000
namespace LW
open PySem PySem.Spec PyProof.Rows L2 PD
/-- alike outside two things -/
def Alike (x y : Int) (l m : List Int) : Prop := ∀ z, ¬ z = x → ¬ z = y → (z ∈ l ↔ z ∈ m)
theorem both {n x y : Int} {ls : List (List Int)} {l o : List Int} (s : Smooth n ls) (hxy : ¬ x = y) (no : ¬ ∃ k ∈ ls, x ∈ k ∧ y ∈ k) (hl : l ∈ ls) (hx : x ∈ l) (ho : o ∈ ls) (hy : y ∈ o) : ∃ m ∈ ls, y ∈ m ∧ Alike x y l m := by
  have hyl : ¬ y ∈ l := fun z => no ⟨l, hl, hx, z⟩
  obtain ⟨k, k1, k2, k3⟩ := near s hl hyl _ o ho hy (Nat.le_refl _)
  have hxk : ¬ x ∈ k := fun z => no ⟨k, k1, z, k2⟩
  have la := s.good.asc l hl
  have ka := s.good.asc k k1
  have sub : (k.filter fun z => !(z == y)).Sublist (l.filter fun z => !(z == x)) := asc_sub (ka.1.filter _) (la.1.filter _) fun z hz => by
    obtain ⟨z1, z2⟩ := List.mem_filter.mp hz
    have z3 : ¬ z = y := by simpa using z2
    exact List.mem_filter.mpr ⟨k3 z z1 z3, by simpa using fun e : z = x => hxk (e ▸ z1)⟩
  have e1 := gone_len (x := y) ka.nodup
  have e2 := gone_len (x := x) la.nodup
  unfold gone at e1 e2
  rw [List.length_map, if_pos k2] at e1
  rw [List.length_map, if_pos hx] at e2
  have e := sub.eq_of_length (by rw [e1, e2, s.eqs k k1 l hl])
  refine ⟨k, k1, k2, fun z z1 z2 => ?_⟩
  constructor
  · intro h
    have : z ∈ l.filter fun z => !(z == x) := List.mem_filter.mpr ⟨h, by simpa using z1⟩
    rw [← e] at this
    exact (List.mem_filter.mp this).1
  · intro h
    exact k3 z h z2
theorem Alike.swap {x y : Int} {l m : List Int} (h : Alike x y l m) : Alike y x l m := fun z z1 z2 => h z z2 z1
end LW
set_option Elab.async false
set_option maxRecDepth 100000
set_option linter.all false
set_option maxHeartbeats 4000000
set_option Elab.async false
set_option maxRecDepth 100000
set_option linter.all false
set_option maxHeartbeats 2000000
namespace LW
open PySem PySem.Spec PyProof.Rows L2 PD
/-- `near`, and what the first lot shares with l stays -/
theorem near_keep {n x : Int} {ls : List (List Int)} {l : List Int} (s : Smooth n ls) (hl : l ∈ ls) (hxl : ¬ x ∈ l) : ∀ (m : Nat) (k : List Int), k ∈ ls → x ∈ k → (k.filter fun y => !decide (y ∈ l)).length ≤ m → ∃ k' ∈ ls, x ∈ k' ∧ (∀ y ∈ k', ¬ y = x → y ∈ l) ∧ ∀ y ∈ k, y ∈ l → y ∈ k'
  | 0, k, hk, hxk, hm => by
    have e := List.eq_nil_of_length_eq_zero (Nat.le_zero.mp hm)
    have : x ∈ k.filter fun y => !decide (y ∈ l) := List.mem_filter.mpr ⟨hxk, by simpa using hxl⟩
    rw [e] at this
    cases this
  | m + 1, k, hk, hxk, hm => by
    by_cases c : ∀ y ∈ k, ¬ y = x → y ∈ l
    · exact ⟨k, hk, hxk, c, fun y hy _ => hy⟩
    · obtain ⟨z, hz⟩ := Classical.not_forall.mp c
      obtain ⟨z1, hz⟩ := Classical.not_imp.mp hz
      obtain ⟨z2, z3⟩ := Classical.not_imp.mp hz
      obtain ⟨t, t1, t2, t3⟩ := s.exc k hk z z1 l hl z3
      have ka := s.good.asc k hk
      have ea := s.good.asc _ t3
      have sub : ((exch k z t).filter fun y => !decide (y ∈ l)).length ≤ ((k.filter fun y => !decide (y ∈ l)).filter fun y => !(y == z)).length := by
        refine sub_len (ea.1.filter _) ((ka.1.filter _).filter _) fun y hy => ?_
        obtain ⟨y1, y2⟩ := List.mem_filter.mp hy
        have y3 : ¬ y ∈ l := by simpa using y2
        rcases mem_exch.mp y1 with q | q
        · exact List.mem_filter.mpr ⟨List.mem_filter.mpr ⟨q.1, y2⟩, by simpa using q.2⟩
        · exact absurd (q ▸ t1) y3
      have one := gone_len (x := z) (l := k.filter fun y => !decide (y ∈ l)) (ka.nodup.filter _)
      unfold gone at one
      rw [List.length_map, if_pos (List.mem_filter.mpr ⟨z1, by simpa using z3⟩)] at one
      obtain ⟨k', k1, k2, k3, k4⟩ := near_keep s hl hxl m (exch k z t) t3 (mem_exch.mpr (.inl ⟨hxk, fun e => z2 e.symm⟩)) (by omega)
      exact ⟨k', k1, k2, k3, fun y hy hyl => k4 y (mem_exch.mpr (.inl ⟨hy, fun e => z3 (e ▸ hyl)⟩)) hyl⟩
/-- the exchange from the other side: x comes in, a thing of l alone goes -/
theorem exc_in {n x : Int} {ls : List (List Int)} {l o : List Int} (s : Smooth n ls) (hl : l ∈ ls) (hxl : ¬ x ∈ l) (ho : o ∈ ls) (hxo : x ∈ o) : ∃ t ∈ l, ¬ t ∈ o ∧ exch l t x ∈ ls := by
  obtain ⟨k, k1, k2, k3, k4⟩ := near_keep s hl hxl _ o ho hxo (Nat.le_refl _)
  have la := s.good.asc l hl
  have ka := s.good.asc k k1
  have e := s.eqs k k1 l hl
  have e1 := gone_len (x := x) ka.nodup
  unfold gone at e1
  rw [List.length_map, if_pos k2] at e1
  have pos := List.length_pos_of_mem k2
  -- some thing of l is not in k
  have out : ∃ t, t ∈ l ∧ ¬ t ∈ k := Classical.byContradiction fun no => by
    have a : ∀ t ∈ l, t ∈ k.filter fun y => !(y == x) := fun t ht => List.mem_filter.mpr ⟨Classical.byContradiction fun z => no ⟨t, ht, z⟩, by simpa using fun z : t = x => hxl (z ▸ ht)⟩
    have := sub_len la.1 (ka.1.filter _) a
    omega
  obtain ⟨t, t1, t2⟩ := out
  have e2 := gone_len (x := t) la.nodup
  unfold gone at e2
  rw [List.length_map, if_pos t1] at e2
  have sub : (k.filter fun y => !(y == x)).Sublist (l.filter fun y => !(y == t)) := asc_sub (ka.1.filter _) (la.1.filter _) fun y hy => by
    obtain ⟨y1, y2⟩ := List.mem_filter.mp hy
    exact List.mem_filter.mpr ⟨k3 y y1 (by simpa using y2), by simpa using fun z : y = t => t2 (z ▸ y1)⟩
  have same := sub.eq_of_length (by rw [e1, e2, e])
  refine ⟨t, t1, fun z => t2 (k4 t z t1), ?_⟩
  have : exch l t x = k := asc_ext (exch_asc la hxl (ka.2 x k2)).1 ka.1 fun y => by
    rw [mem_exch]
    constructor
    · rintro (⟨a, b⟩ | a)
      · have : y ∈ l.filter fun y => !(y == t) := List.mem_filter.mpr ⟨a, by simpa using b⟩
        rw [← same] at this
        exact (List.mem_filter.mp this).1
      · exact a ▸ k2
    · intro h
      by_cases c : y = x
      · exact .inr c
      · exact .inl ⟨k3 y h c, fun z => t2 (z ▸ h)⟩
  rw [this]
  exact k1
theorem rest_exch {n t x : Int} {l : List Int} (h : Asc n l) (hx : ¬ x ∈ l) (hb : 0 ≤ x ∧ x < n) (ht : t ∈ l) : exch (rest n l) x t = rest n (exch l t x) := by
  have htx : ¬ t = x := fun z => hx (z ▸ ht)
  refine asc_ext (exch_asc (rest_asc n l) (fun z => (mem_rest.mp z).2 ht) (h.2 t ht)).1 (rest_asc _ _).1 fun y => ?_
  rw [mem_exch, mem_rest, mem_rest, mem_exch]
  constructor
  · rintro (⟨⟨a, b⟩, c⟩ | a)
    · exact ⟨a, fun z => z.elim (fun z => b z.1) c⟩
    · rw [a]
      exact ⟨h.2 t ht, fun z => z.elim (fun z => z.2 rfl) htx⟩
  · rintro ⟨a, b⟩
    by_cases c : y = t
    · exact .inr c
    · exact .inl ⟨⟨a, fun z => b (.inl ⟨z, c⟩)⟩, fun z => b (.inr z)⟩
theorem mem_opp {n : Int} {ls : List (List Int)} {l : List Int} : l ∈ opp n ls ↔ ∃ k ∈ ls, rest n k = l := by
  unfold opp
  rw [mem_sortT, List.mem_map]
theorem rest_len {n : Int} {l : List Int} (h : Asc n l) : (rest n l).length + l.length = (rangeI 0 n).length := by
  have e : l = (rangeI 0 n).filter fun x => decide (x ∈ l) := asc_ext h.1 ((rangeI_asc 0 n).filter _) fun y => by
    rw [List.mem_filter, mem_rangeI]
    exact ⟨fun z => ⟨h.2 y z, decide_eq_true z⟩, fun z => of_decide_eq_true z.2⟩
  have sp : ∀ (m : List Int) (p : Int → Bool), (m.filter fun y => !p y).length + (m.filter p).length = m.length := fun m p => by
    induction m with
    | nil => rfl
    | cons y m ih =>
      cases q : p y with
      | true => rw [List.filter_cons_of_neg (p := fun y => !p y) (by simp [q]), List.filter_cons_of_pos (p := p) q, List.length_cons, List.length_cons]; omega
      | false => rw [List.filter_cons_of_pos (p := fun y => !p y) (by simp [q]), List.filter_cons_of_neg (p := p) (by simp [q]), List.length_cons, List.length_cons]; omega
  have := sp (rangeI 0 n) fun x => decide (x ∈ l)
  rw [← e] at this
  exact this
theorem Smooth.opp {n : Int} {ls : List (List Int)} (s : Smooth n ls) : Smooth n (opp n ls) := by
  refine ⟨s.good.opp, ?_, ?_⟩
  · intro l' hl' x hx o' ho' nx
    obtain ⟨l, hl, rfl⟩ := mem_opp.mp hl'
    obtain ⟨o, ho, rfl⟩ := mem_opp.mp ho'
    obtain ⟨xb, xl⟩ := mem_rest.mp hx
    have xo : x ∈ o := Classical.byContradiction fun z => nx (mem_rest.mpr ⟨xb, z⟩)
    obtain ⟨t, t1, t2, t3⟩ := exc_in s hl xl ho xo
    refine ⟨t, mem_rest.mpr ⟨(s.good.asc l hl).2 t t1, t2⟩, fun z => (mem_rest.mp z).2 t1, ?_⟩
    rw [rest_exch (s.good.asc l hl) xl xb t1]
    exact mem_opp.mpr ⟨_, t3, rfl⟩
  · intro l' hl' k' hk'
    obtain ⟨l, hl, rfl⟩ := mem_opp.mp hl'
    obtain ⟨k, hk, rfl⟩ := mem_opp.mp hk'
    have a := rest_len (s.good.asc l hl)
    have b := rest_len (s.good.asc k hk)
    have c := s.eqs l hl k hk
    omega
end LW
set_option Elab.async false
set_option maxRecDepth 100000
set_option linter.all false
set_option maxHeartbeats 2000000
namespace LW
open PySem PySem.Spec PyProof.Rows L2 PD
/-- the things of a row in one class -/
def cls (cf : Int → Int) (k : Int) (l : List Int) : Nat := (l.filter fun x => cf x == k).length
def Fit (cf bf : Int → Int) (l : List Int) : Prop := ∀ k, 0 ≤ k → k < 3 → (cls cf k l : Int) ≤ bf k
theorem cls_sum {cf : Int → Int} : ∀ {l : List Int}, (∀ x ∈ l, 0 ≤ cf x ∧ cf x < 3) → l.length = cls cf 0 l + cls cf 1 l + cls cf 2 l
  | [], _ => rfl
  | x :: l, h => by
    have ih := cls_sum (cf := cf) (l := l) fun y hy => h y (List.mem_cons_of_mem _ hy)
    have hx := h x List.mem_cons_self
    have one : ∀ k, cls cf k (x :: l) = cls cf k l + if cf x = k then 1 else 0 := fun k => by
      unfold cls
      by_cases c : cf x = k
      · rw [List.filter_cons_of_pos (by simpa using c), if_pos c, List.length_cons]
      · rw [List.filter_cons_of_neg (by simpa using c), if_neg c]
        rfl
    rw [one, one, one, List.length_cons, ih]
    have : cf x = 0 ∨ cf x = 1 ∨ cf x = 2 := by omega
    rcases this with e | e | e <;> rw [e] <;> simp <;> omega
theorem cls_perm {cf : Int → Int} {k : Int} {l m : List Int} (p : l.Perm m) : cls cf k l = cls cf k m := (p.filter _).length_eq
theorem cls_exch {cf : Int → Int} {k x t : Int} {l : List Int} : cls cf k (exch l x t) = cls cf k (l.filter fun y => !(y == x)) + if cf t = k then 1 else 0 := by
  have p : (exch l x t).Perm (l.filter (fun y => !(y == x)) ++ [t]) := (sortD_ints _).2
  rw [cls_perm p]
  unfold cls
  rw [List.filter_append, List.length_append]
  congr 1
  by_cases c : cf t = k
  · rw [if_pos c, List.filter_cons_of_pos (by simpa using c)]
    rfl
  · rw [if_neg c, List.filter_cons_of_neg (by simpa using c)]
    rfl
theorem exch_len {x t : Int} {l : List Int} (nd : l.Nodup) (hx : x ∈ l) : (exch l x t).length = l.length := by
  have p : (exch l x t).Perm (l.filter (fun y => !(y == x)) ++ [t]) := (sortD_ints _).2
  have e := gone_len (x := x) nd
  unfold gone at e
  rw [List.length_map, if_pos hx] at e
  have pos := List.length_pos_of_mem hx
  rw [p.length_eq, List.length_append, e]
  show l.length - 1 + 1 = l.length
  omega
theorem fit_exc {n x : Int} {cf bf : Int → Int} {l o : List Int} (hc : ∀ x, 0 ≤ x → x < n → 0 ≤ cf x ∧ cf x < 3) (la : Asc n l) (oa : Asc n o) (lf : Fit cf bf l) (of : Fit cf bf o) (e : l.length = o.length) (hx : x ∈ l) (nx : ¬ x ∈ o) :
    ∃ t ∈ o, ¬ t ∈ l ∧ Asc n (exch l x t) ∧ Fit cf bf (exch l x t) ∧ (exch l x t).length = l.length := by
  have cr : ∀ {m : List Int}, Asc n m → ∀ y ∈ m, 0 ≤ cf y ∧ cf y < 3 := fun {m} ma y hy => hc y (ma.2 y hy).1 (ma.2 y hy).2
  have g := gone_len (x := x) la.nodup
  unfold gone at g
  rw [List.length_map, if_pos hx] at g
  have pos := List.length_pos_of_mem hx
  have s1 := cls_sum (cf := cf) (cr oa)
  have s2 := cls_sum (cf := cf) (l := l.filter fun y => !(y == x)) fun y hy => cr la y (List.mem_filter.mp hy).1
  have more : ∃ k, (0 ≤ k ∧ k < 3) ∧ cls cf k (l.filter fun y => !(y == x)) < cls cf k o := by
    by_cases a : cls cf 0 (l.filter fun y => !(y == x)) < cls cf 0 o
    · exact ⟨0, by omega, a⟩
    · by_cases b : cls cf 1 (l.filter fun y => !(y == x)) < cls cf 1 o
      · exact ⟨1, by omega, b⟩
      · exact ⟨2, by omega, by omega⟩
  obtain ⟨k, hk, lt⟩ := more
  have new : ∃ t ∈ o, cf t = k ∧ ¬ t ∈ l.filter fun y => !(y == x) := Classical.byContradiction fun no => by
    have : cls cf k o ≤ cls cf k (l.filter fun y => !(y == x)) := sub_len (oa.1.filter _) ((la.1.filter _).filter _) fun y hy => by
      obtain ⟨y1, y2⟩ := List.mem_filter.mp hy
      exact List.mem_filter.mpr ⟨Classical.byContradiction fun z => no ⟨y, y1, by simpa using y2, z⟩, y2⟩
    omega
  obtain ⟨t, t1, t2, t3⟩ := new
  have tl : ¬ t ∈ l := fun z => t3 (List.mem_filter.mpr ⟨z, by simpa using fun e : t = x => nx (e ▸ t1)⟩)
  refine ⟨t, t1, tl, exch_asc la tl (oa.2 t t1), fun j j0 j1 => ?_, exch_len la.nodup hx⟩
  rw [cls_exch]
  by_cases c : cf t = j
  · rw [if_pos c]
    have := of j j0 j1
    rw [← c, t2] at this ⊢
    omega
  · rw [if_neg c]
    have a := lf j j0 j1
    have : cls cf j (l.filter fun y => !(y == x)) ≤ cls cf j l := sub_len ((la.1.filter _).filter _) (la.1.filter _) fun y hy => by
      obtain ⟨y1, y2⟩ := List.mem_filter.mp hy
      exact List.mem_filter.mpr ⟨(List.mem_filter.mp y1).1, y2⟩
    omega
/-- a part of a row that fits does -/
theorem fit_take {cf bf : Int → Int} {l : List Int} (h : Fit cf bf l) (m : Nat) : Fit cf bf (l.take m) := fun k k0 k1 => by
  have a := h k k0 k1
  have b : cls cf k (l.take m) ≤ cls cf k l := ((List.take_sublist m l).filter _).length_le
  omega
theorem asc_take {n : Int} {l : List Int} (h : Asc n l) (m : Nat) : Asc n (l.take m) := ⟨h.1.sublist (List.take_sublist m l), fun x hx => h.2 x (List.mem_of_mem_take hx)⟩
end LW
set_option Elab.async false
set_option maxRecDepth 100000
set_option linter.all false
set_option maxHeartbeats 2000000
namespace LW
open PySem PySem.Spec PyProof.Rows L2 PD
/-- what is kept and what is still to come stand in order -/
def Run (R : List Int → List Int → Prop) (kept xs : List (List Int)) : Prop := kept.Pairwise R ∧ xs.Pairwise R ∧ ∀ a ∈ kept, ∀ b ∈ xs, R a b
theorem Run.keep {R : List Int → List Int → Prop} {x : List Int} {kept xs : List (List Int)} (h : Run R kept (x :: xs)) : Run R (kept ++ [x]) xs := by
  obtain ⟨h1, h2, h3⟩ := h
  obtain ⟨h4, h5⟩ := List.pairwise_cons.mp h2
  refine ⟨List.pairwise_append.mpr ⟨h1, List.pairwise_singleton _ _, fun a ha b hb => ?_⟩, h5, fun a ha b hb => ?_⟩
  · rw [List.mem_singleton.mp hb]
    exact h3 a ha x List.mem_cons_self
  · rcases List.mem_append.mp ha with z | z
    · exact h3 a z b (List.mem_cons_of_mem _ hb)
    · rw [List.mem_singleton.mp z]
      exact h4 b hb
theorem Run.skip {R : List Int → List Int → Prop} {x : List Int} {kept xs : List (List Int)} (h : Run R kept (x :: xs)) : Run R kept xs := ⟨h.1, (List.pairwise_cons.mp h.2.1).2, fun a ha b hb => h.2.2 a ha b (List.mem_cons_of_mem _ hb)⟩
theorem Run.start {R : List Int → List Int → Prop} {xs : List (List Int)} (h : xs.Pairwise R) : Run R [] xs := ⟨.nil, h, fun a ha => by cases ha⟩
theorem v_parts2 (n : Int) (h0 : 0 ≤ n) (h1 : n ≤ 12) : ∃ rows : List (List Int), m_law_parts_of [.int n] = .ok (lt rows) ∧ (∀ r, r ∈ rows ↔ Asc n r) ∧ rows.length = 2 ^ n.toNat ∧ Asd rows := by
  show ∃ rows : List (List Int), endR (g_law_parts_of [some (.d (.int n)), none, none, none]) = _ ∧ _
  have key := forGo_inv (i := 2) (g := b_law_parts_of_1) (enc := PyData.int) (fun xs ρ => ∃ (k : Int) (rows : List (List Int)) (o2 : Option Sl),
    xs = rangeI k n ∧ 0 ≤ k ∧ k ≤ n ∧ ρ = [some (.d (.int n)), some (.d (lt rows)), o2, none] ∧ (∀ r, r ∈ rows ↔ Asc k r) ∧ rows.length = 2 ^ k.toNat ∧ rows.Nodup) (by
    rintro x xs ρ ⟨k, rows, o2, hx, hk, hkn, rfl, hr, hz, hd⟩
    obtain ⟨hk1, rfl, rfl⟩ := rangeI_inv hx
    have hp : 2 ^ x.toNat ≤ 2 ^ 12 := Nat.pow_le_pow_right (by decide) (by omega)
    have e1 : lcR (fun _ => R.ok true) (fun r : List Int => oAdd (tu r) (tu [x])) rows = .ok (rows.map fun r => tu (r ++ [x])) := lcR_mem fun r hm => oAdd_tu (by have := ((hr r).mp hm).len; simp; omega)
    have e2 : oAdd (lt rows) (lt (rows.map fun r => r ++ [x])) = .ok (lt (rows ++ rows.map fun r => r ++ [x])) := oAdd_lt (by rw [List.length_map, hz]; omega)
    refine ⟨[some (.d (.int n)), some (.d (lt (rows ++ rows.map fun r => r ++ [x]))), some (.d (.int x)), none], ?_, x + 1, _, _, rfl, by omega, by omega, rfl, fun r => ?_, ?_, ?_⟩
    · simp [b_law_parts_of_1, e1, e2]
    · rw [List.mem_append, List.mem_map, asc_succ hk, hr r]
      constructor
      · rintro (h | ⟨a, ha, rfl⟩)
        · exact .inl h
        · exact .inr ⟨a, (hr a).mp ha, rfl⟩
      · rintro (h | ⟨a, ha, rfl⟩)
        · exact .inl h
        · exact .inr ⟨a, (hr a).mpr ha, rfl⟩
    · rw [List.length_append, List.length_map, hz, show (x + 1).toNat = x.toNat + 1 by omega, Nat.pow_succ]; omega
    · rw [List.nodup_append]
      refine ⟨hd, List.pairwise_map.mpr (hd.imp fun {a b} ne e => ne (List.append_cancel_right e)), fun a ha b hb e => ?_⟩
      obtain ⟨c, _, rfl⟩ := List.mem_map.mp hb
      have := ((hr a).mp ha).2 x (by rw [e]; simp)
      omega)
  have hi : ∀ r : List Int, r ∈ [[]] ↔ Asc 0 r := fun r => by
    constructor
    · intro h
      rw [List.mem_singleton.mp h]; exact Asc.nil _
    · intro h
      have := h.len
      have : r.length = 0 := by simpa using this
      rw [List.length_eq_zero_iff.mp this]; simp
  obtain ⟨ρ', e, k, rows, o2, hx, hk, hkn, rfl, hr, hz, hd⟩ := key (rangeI 0 n) [some (.d (.int n)), some (.d (lt [[]])), none, none] ⟨0, [[]], none, rfl, by omega, h0, rfl, hi, rfl, by simp⟩
  · have ek : k = n := by
      by_cases h : k < n
      · rw [rangeI_cons h] at hx; cases hx
      · omega
    subst ek
    have hp : 2 ^ k.toNat ≤ 2 ^ 12 := Nat.pow_le_pow_right (by decide) (by omega)
    refine ⟨sortT rows, ?_, fun r => mem_sortT.trans (hr r), ?_, asd_sortT hd⟩
    · simp [g_law_parts_of, rngA1_ok (show k ≤ 100000 by omega) (show -1000 ≤ k by omega), e]
    · rw [(sortT_perm rows).length_eq, hz]
end LW
set_option Elab.async false
set_option maxRecDepth 100000
set_option linter.all false
set_option maxHeartbeats 2000000
namespace LW
open PySem PySem.Spec PyProof.Rows L2 PD
theorem v_smooth2 (c n : Int) (h0 : 0 ≤ n) (h1 : n ≤ 9) : ∃ ks : List (List Int), m_law_smooth_lots [.int c, .int n] = .ok (tt ks) ∧ Smooth n ks := by
  show ∃ ks : List (List Int), endR (g_law_smooth_lots [some (.d (.int c)), some (.d (.int n)), none, none, none, none, none, none, none, none, none]) = _ ∧ _
  obtain ⟨L, e1, hL, bL⟩ := v_draws c (3 + n) (by omega) (by omega)
  have hLn : (L.length : Int) = 3 + n := by rw [hL]; omega
  obtain ⟨rows, e2, hr, hz2, hs⟩ := v_parts2 n h0 (by omega)
  have hz : rows.length ≤ 512 := by
    rw [hz2]
    have hp : 2 ^ n.toNat ≤ 2 ^ 9 := Nat.pow_le_pow_right (by decide) (by omega)
    omega
  have e30 := ix_li (L := L) (i := 0) (by decide) (by omega)
  have e31 := ix_li (L := L) (i := 1) (by decide) (by omega)
  have e32 := ix_li (L := L) (i := 2) (by decide) (by omega)
  generalize hcl : (rangeI 0 n).map (fun k => (ixv L (3 + k)).fmod 3) = cl
  have lcl : (cl.length : Int) = n := by rw [← hcl, List.length_map, rangeI_len]; omega
  generalize hb0 : 1 + (ixv L 1).fmod 2 = B0
  generalize hb1 : 1 + ((ixv L 1).fdiv 2).fmod 2 = B1
  generalize hb2 : ((ixv L 1).fdiv 4).fmod 3 = B2
  have er := rngA1_ok (n := n) (by omega) (by omega)
  have er3 := rngA1_ok (n := 3) (by decide) (by decide)
  let fit : List Int → Bool := fun row => (rangeI 0 3).all fun k => decide (((row.filter fun x => ixv cl x == k).length : Int) ≤ ixv [B0, B1, B2] k)
  have key := forGo_inv (i := 6) (g := b_law_smooth_lots_1) (enc := tu) (fun xs ρ => ∃ (kept : List (List Int)) (o6 : Option Sl), ρ = [some (.d (.int c)), some (.d (.int n)), some (.d (li L)), some (.d (li cl)), some (.d (li [B0, B1, B2])), some (.own (kept.map tu)), o6, none, none, none, none] ∧
      (∀ x ∈ xs, Asc n x) ∧ kept.length + xs.length ≤ 512 ∧ (∀ x ∈ kept, Asc n x) ∧ (∀ r, Asc n r → fit r = true → r ∈ kept ∨ r ∈ xs) ∧ Run (fun a b => HT.lexLt a b = true) kept xs ∧ ∀ r ∈ kept, fit r = true) (by
    rintro x xs ρ ⟨kept, o6, rfl, hx, hl, hk, hf, hR, hF⟩
    have hl' : kept.length + (xs.length + 1) ≤ 512 := by simpa using hl
    have hs : kept.length < sizeLine := line_lt (by omega)
    have hxa := hx x List.mem_cons_self
    have et : lcR (fun _ => R.ok true) (fun k : Int => m_law_count [tu x, li cl, .int k] >>= fun a => oIx (li [B0, B1, B2]) (.int k) >>= fun b => oLe a b) (rangeI 0 3) = .ok ((rangeI 0 3).map fun k => PyData.bool (decide (((x.filter fun y => ixv cl y == k).length : Int) ≤ ixv [B0, B1, B2] k))) := lcR_mem fun k hk => by
      obtain ⟨k1, k2⟩ := mem_rangeI.mp hk
      simp [v_count x cl k (fun y hy => by have := hxa.2 y hy; omega), ix_li (L := [B0, B1, B2]) (i := k) k1 (by simpa using k2)]
    by_cases hb : fit x = true
    · refine ⟨[some (.d (.int c)), some (.d (.int n)), some (.d (li L)), some (.d (li cl)), some (.d (li [B0, B1, B2])), some (.own ((kept ++ [x]).map tu)), some (.d (tu x)), none, none, none, none], ?_, kept ++ [x], _, rfl, fun y hy => hx y (List.mem_cons_of_mem _ hy), by simp; omega, fun y hy => ?_, fun r ha hr => ?_, hR.keep, fun r hr => (List.mem_append.mp hr).elim (hF r) fun z => by rw [List.mem_singleton.mp z]; exact hb⟩
      · have hb' : ∀ k ∈ rangeI 0 3, ((x.filter fun y => ixv cl y == k).length : Int) ≤ ixv [B0, B1, B2] k := by simpa [fit] using hb
        simp [b_law_smooth_lots_1, er3, et, hs]
        exact hb'
      · rcases List.mem_append.mp hy with hy | hy
        · exact hk y hy
        · rw [List.mem_singleton.mp hy]; exact hxa
      · rcases hf r ha hr with h | h
        · exact .inl (List.mem_append_left _ h)
        · rcases List.mem_cons.mp h with rfl | h
          · exact .inl (by simp)
          · exact .inr h
    · refine ⟨[some (.d (.int c)), some (.d (.int n)), some (.d (li L)), some (.d (li cl)), some (.d (li [B0, B1, B2])), some (.own (kept.map tu)), some (.d (tu x)), none, none, none, none], ?_, kept, _, rfl, fun y hy => hx y (List.mem_cons_of_mem _ hy), by omega, hk, fun r ha hr => ?_, hR.skip, hF⟩
      rotate_left
      · rcases hf r ha hr with h | h
        · exact .inl h
        · rcases List.mem_cons.mp h with rfl | h
          · exact absurd hr hb
          · exact .inr h
      have hb' : ¬ ∀ k ∈ rangeI 0 3, ((x.filter fun y => ixv cl y == k).length : Int) ≤ ixv [B0, B1, B2] k := fun h => hb (by simpa [fit] using h)
      simp [b_law_smooth_lots_1, er3, et, hs]
      refine Classical.byContradiction fun hc => hb' fun k hk2 => ?_
      exact Classical.byContradiction fun hn => hc ⟨k, hk2, by omega⟩)
  obtain ⟨ρ', e, kept, o6, rfl, _, hl, hk, hf, hR, hF⟩ := key rows [some (.d (.int c)), some (.d (.int n)), some (.d (li L)), some (.d (li cl)), some (.d (li [B0, B1, B2])), some (.own []), none, none, none, none, none]
    ⟨[], none, rfl, fun x hx => (hr x).mp hx, by simpa using hz, by simp, fun r ha _ => .inr ((hr r).mpr ha), Run.start hs, by simp⟩
  have hB0 : 0 ≤ B0 := by have := fmod_lo (ixv L 1) (b := 2) (by decide); omega
  have hB1 : 0 ≤ B1 := by have := fmod_lo ((ixv L 1).fdiv 2) (b := 2) (by decide); omega
  have hB2 : 0 ≤ B2 := by have := fmod_lo ((ixv L 1).fdiv 4) (b := 3) (by decide); omega
  have fit0 : fit [] = true := by
    show ((rangeI 0 3).all fun k => decide (((([] : List Int).filter fun x => ixv cl x == k).length : Int) ≤ ixv [B0, B1, B2] k)) = true
    rw [List.all_eq_true]
    intro k hk2
    obtain ⟨k1, k2⟩ := mem_rangeI.mp hk2
    have this : ixv [B0, B1, B2] k ∈ [B0, B1, B2] := ixv_mem k1 (by simpa using k2)
    simp only [List.mem_cons, List.not_mem_nil, or_false] at this
    refine decide_eq_true ?_
    show (0 : Int) ≤ _
    rcases this with h | h | h <;> omega
  have hne : kept ≠ [] := fun z => by
    rcases hf [] (Asc.nil n) fit0 with h | h
    · rw [z] at h; cases h
    · cases h
  have hmx := bMax_li (l := kept.map fun r => (r.length : Int)) (by simpa using hne)
  generalize hM : maxI (kept.map fun r => (r.length : Int)) = M at hmx
  have f8a := fmod_lo (ixv L 0) (b := 8) (by decide)
  have f8b := fmod_hi (ixv L 0) (b := 8) (by decide)
  have e8 := ix_tu (L := [2, 1, 2, 3, 2, 1, 3, 0]) (i := (ixv L 0).fmod 8) f8a (by simpa using f8b)
  have mT : ixv [2, 1, 2, 3, 2, 1, 3, 0] ((ixv L 0).fmod 8) ∈ [2, 1, 2, 3, 2, 1, 3, 0] := ixv_mem f8a (by simpa using f8b)
  generalize ixv [2, 1, 2, 3, 2, 1, 3, 0] ((ixv L 0).fmod 8) = T at e8 mT
  generalize hC : (if T < M then T else M) = C
  have hT : 0 ≤ T := by
    simp only [List.mem_cons, List.not_mem_nil, or_false] at mT
    omega
  have hmm : ∃ top ∈ kept, (top.length : Int) = M := by
    have := maxI_mem (ns := kept.map fun r => (r.length : Int)) (by rw [List.length_map]; exact List.length_pos_iff.mpr hne)
    rw [hM] at this
    exact List.mem_map.mp this
  have hfit : ∀ r : List Int, fit r = true ↔ Fit (fun x => ixv cl x) (fun k => ixv [B0, B1, B2] k) r := fun r => by
    show ((rangeI 0 3).all fun k => decide (((r.filter fun x => ixv cl x == k).length : Int) ≤ ixv [B0, B1, B2] k)) = true ↔ _
    rw [List.all_eq_true]
    constructor
    · intro z k k0 k1
      exact of_decide_eq_true (z k (mem_rangeI.mpr ⟨k0, k1⟩))
    · intro z k hk
      exact decide_eq_true (z k (mem_rangeI.mp hk).1 (mem_rangeI.mp hk).2)
  have hcr : ∀ x, 0 ≤ x → x < n → 0 ≤ ixv cl x ∧ ixv cl x < 3 := fun x x0 x1 => by
    have m : ixv cl x ∈ cl := ixv_mem x0 (by omega)
    generalize ixv cl x = u at m ⊢
    rw [← hcl] at m
    obtain ⟨k, _, rfl⟩ := List.mem_map.mp m
    exact ⟨fmod_lo _ (by decide), fmod_hi _ (by decide)⟩
  have mem : ∀ r, r ∈ (kept.filter fun r => (r.length : Int) == C) ↔ Asc n r ∧ fit r = true ∧ (r.length : Int) = C := fun r => by
    rw [List.mem_filter]
    constructor
    · rintro ⟨a, b⟩
      exact ⟨hk r a, hF r a, by simpa using b⟩
    · rintro ⟨a, b, d⟩
      exact ⟨(hf r a b).elim id (fun z => by cases z), by simpa using d⟩
  have base : Smooth n (kept.filter fun r => (r.length : Int) == C) := by
    refine ⟨⟨fun l hl => ((mem l).mp hl).1, (hR.1 : Asd kept).filter _, fun z => ?_, ?_⟩, fun l hl x hx o ho nx => ?_, fun l hl k hk2 => ?_⟩
    · obtain ⟨top, t1, t2⟩ := hmm
      have c0 : 0 ≤ C ∧ C ≤ top.length := by
        rw [← hC]
        split <;> omega
      have : top.take C.toNat ∈ (kept.filter fun r => (r.length : Int) == C) := (mem _).mpr ⟨asc_take (hk top t1) _, (hfit _).mpr (fit_take ((hfit _).mp (hF top t1)) _), by rw [List.length_take]; omega⟩
      rw [z] at this
      cases this
    · have a := List.length_filter_le (fun r : List Int => (r.length : Int) == C) kept
      have : kept.length ≤ 512 := by simpa using hl
      omega
    · obtain ⟨la, lf, ll⟩ := (mem l).mp hl
      obtain ⟨oa, of, ol⟩ := (mem o).mp ho
      obtain ⟨t, t1, t2, t3, t4, t5⟩ := fit_exc hcr la oa ((hfit l).mp lf) ((hfit o).mp of) (by omega) hx nx
      exact ⟨t, t1, t2, (mem _).mpr ⟨t3, (hfit _).mpr t4, by rw [t5]; exact ll⟩⟩
    · have a := ((mem l).mp hl).2.2
      have b := ((mem k).mp hk2).2.2
      omega
  have hrest : ∀ ls : List (List Int), lcR (fun _ => R.ok true) (fun l => m_law_rest [tu l, .int n]) ls = .ok (ls.map fun l => tu ((rangeI 0 n).filter fun x => !decide (x ∈ l))) := fun ls => lcR_mem fun l _ => v_rest l n h0 (by omega)
  by_cases h3 : (ixv L 2).fmod 3 = 1
  · refine ⟨sortT ((kept.filter fun r => (r.length : Int) == C).map fun l => (rangeI 0 n).filter fun x => !decide (x ∈ l)), ?_, ?_⟩
    · simp [g_law_smooth_lots, e1, er]
      rw [lcR_mem (g := fun k => PyData.int ((ixv L (3 + k)).fmod 3))]
      · simp [e2, e30, e31, e32, hcl, oMod_int, oDiv_lit, hb0, hb1, hb2, e, hmx, e8, hC, h3, hrest]
      · intro k hk3
        obtain ⟨k1, k2⟩ := mem_rangeI.mp hk3
        simp [ix_li (L := L) (i := 3 + k) (by omega) (by omega), oMod_int]
    · exact base.opp
  · refine ⟨kept.filter fun r => (r.length : Int) == C, ?_, base⟩
    simp [g_law_smooth_lots, e1, er]
    rw [lcR_mem (g := fun k => PyData.int ((ixv L (3 + k)).fmod 3))]
    · simp [e2, e30, e31, e32, hcl, oMod_int, oDiv_lit, hb0, hb1, hb2, e, hmx, e8, hC, h3, hrest]
    · intro k hk3
      obtain ⟨k1, k2⟩ := mem_rangeI.mp hk3
      simp [ix_li (L := L) (i := 3 + k) (by omega) (by omega), oMod_int]
end LW
set_option Elab.async false
set_option maxRecDepth 100000
set_option linter.all false
set_option maxHeartbeats 2000000
namespace LW
open PySem PySem.Spec PyProof.Rows L2 PD
def Road (p : Int) (r : List Int) : Prop := ∃ a b : Int, r = [a, b] ∧ (0 ≤ a ∧ a < p) ∧ (0 ≤ b ∧ b < p)
structure Lab (p : Int) (lab : List Int) : Prop where
  len : (lab.length : Int) = p
  bnd : ∀ v ∈ lab, 0 ≤ v ∧ v < p
theorem Lab.start {p : Int} (h : 0 ≤ p) : Lab p (rangeI 0 p) := ⟨by rw [rangeI_len]; omega, fun v hv => mem_rangeI.mp hv⟩
theorem Road.at {p : Int} {r : List Int} (h : Road p r) : (0 ≤ ixv r 0 ∧ ixv r 0 < p) ∧ (0 ≤ ixv r 1 ∧ ixv r 1 < p) := by
  obtain ⟨a, b, rfl, ha, hb⟩ := h
  exact ⟨ha, hb⟩
end LW
set_option Elab.async false
set_option maxRecDepth 100000
set_option linter.all false
set_option maxHeartbeats 2000000
set_option Elab.async false
set_option maxRecDepth 100000
set_option linter.all false
set_option maxHeartbeats 2000000
namespace LW
open PySem PySem.Spec PyProof.Rows L2 PD
theorem lcGo_of {α : Type} {enc : α → PyData} {t : Tg} {ft : DnB} {fe : Dn} {ρ : Rho} {st : α → Rho} {q : α → Bool} {g : α → PyData} : ∀ {xs : List α}, (∀ x ∈ xs, t.set (enc x) ρ = some (st x) ∧ ft (st x) = .ok (q x) ∧ (q x = true → fe (st x) = .ok (g x))) → lcGo t ft fe ρ (xs.map enc) = .ok ((xs.filter q).map g)
  | [], _ => rfl
  | x :: xs, h => by
    obtain ⟨h1, h2, h3⟩ := h x List.mem_cons_self
    have ih := lcGo_of (xs := xs) fun y hy => h y (List.mem_cons_of_mem _ hy)
    rw [List.map_cons]
    unfold lcGo
    rw [h1]
    dsimp only
    rw [h2, nx_ok', ih]
    cases e : q x with
    | false => simp [e]
    | true => rw [h3 e]; simp [e]
theorem lc_of {α : Type} {enc : α → PyData} {fi : DnL} {t : Tg} {ft : DnB} {fe : Dn} {vs : List Nat} {ρ : Rho} {xs : List α} {st : α → Rho} {q : α → Bool} {g : α → PyData} (hi : fi ρ = .ok (xs.map enc)) (h : ∀ x ∈ xs, t.set (enc x) (wipeR ρ vs) = some (st x) ∧ ft (st x) = .ok (q x) ∧ (q x = true → fe (st x) = .ok (g x))) :
    dLc fi t ft fe vs ρ = .ok (.list ((xs.filter q).map g)) := by
  unfold dLc
  rw [hi, R.bind_ok, lcGo_of h]
  rfl
theorem lc2Go_of {α : Type} {enc : α → PyData} {t : Tg} {ft : DnB} {fi1 : DnL} {t1 : Tg} {ft1 : DnB} {fe : Dn} {vs1 : List Nat} {ρ : Rho} {st : α → Rho} {q : α → Bool} {es : α → List PyData} {ys : α → List PyData} : ∀ {xs : List α}, (∀ x ∈ xs, t.set (enc x) ρ = some (st x) ∧ ft (st x) = .ok (q x) ∧ (q x = true → fi1 (st x) = .ok (es x) ∧ lcGo t1 ft1 fe (wipeR (st x) vs1) (es x) = .ok (ys x))) →
    lc2Go t ft fi1 t1 ft1 fe vs1 ρ (xs.map enc) = .ok ((xs.filter q).flatMap ys)
  | [], _ => rfl
  | x :: xs, h => by
    obtain ⟨h1, h2, h3⟩ := h x List.mem_cons_self
    have ih := lc2Go_of (xs := xs) fun y hy => h y (List.mem_cons_of_mem _ hy)
    rw [List.map_cons]
    unfold lc2Go
    rw [h1]
    dsimp only
    rw [h2, nx_ok', ih]
    cases e : q x with
    | false => simp [e]
    | true =>
      obtain ⟨a, b⟩ := h3 e
      rw [a, nx_ok', b]
      simp [e]
theorem lc2_of {α : Type} {enc : α → PyData} {fi : DnL} {t : Tg} {ft : DnB} {fi1 : DnL} {t1 : Tg} {ft1 : DnB} {fe : Dn} {vs vs1 : List Nat} {ρ : Rho} {xs : List α} {st : α → Rho} {q : α → Bool} {es : α → List PyData} {ys : α → List PyData} (hi : fi ρ = .ok (xs.map enc))
    (h : ∀ x ∈ xs, t.set (enc x) (wipeR ρ vs) = some (st x) ∧ ft (st x) = .ok (q x) ∧ (q x = true → fi1 (st x) = .ok (es x) ∧ lcGo t1 ft1 fe (wipeR (st x) vs1) (es x) = .ok (ys x))) (hz : ((xs.filter q).flatMap ys).length ≤ 100000) :
    dLc2 fi t ft fi1 t1 ft1 fe vs vs1 ρ = .ok (.list ((xs.filter q).flatMap ys)) := by
  unfold dLc2
  rw [hi, R.bind_ok, lc2Go_of h, nx_ok', if_pos (by rw [sizeLine_eq]; omega)]
theorem forGo_invT {α : Type} {enc : α → PyData} {t : Tg} {g : Sn} (S : List α → Rho → Prop) (hs : ∀ x xs ρ, S (x :: xs) ρ → ∃ ρ1 ρ', t.set (enc x) ρ = some ρ1 ∧ g ρ1 = .nx ρ' ∧ S xs ρ') : ∀ (xs : List α) (ρ : Rho), S xs ρ → ∃ ρ', forGo t g (xs.map enc) ρ = .nx ρ' ∧ S [] ρ'
  | [], ρ, h => ⟨ρ, rfl, h⟩
  | x :: xs, ρ, h => by
    obtain ⟨ρ1, ρ2, e1, e2, h2⟩ := hs x xs ρ h
    obtain ⟨ρ3, e3, h3⟩ := forGo_invT S hs xs ρ2 h2
    refine ⟨ρ3, ?_, h3⟩
    rw [List.map_cons]
    unfold forGo
    rw [e1]
    dsimp only
    rw [e2]
    exact e3
@[simp] theorem ev_enum (g : DnL) (ρ : Rho) : dEnum g ρ = (g ρ >>= enumA) := rfl
@[simp] theorem enumA_1 (d : PyData) : enumA [d] = (items d >>= fun ds => .ok (enumF 0 ds)) := rfl
@[simp] theorem ev_zip (g : DnL) (ρ : Rho) : dZip g ρ = (g ρ >>= zipA) := rfl
@[simp] theorem zipA_2 (d e : PyData) : zipA [d, e] = (items d >>= fun ds => items e >>= fun es => .ok (zipD ds es)) := rfl
def enc2 {α β : Type} (f : α → PyData) (g : β → PyData) (p : α × β) : PyData := .tuple [f p.1, g p.2]
theorem zipD_map {α β : Type} (f : α → PyData) (g : β → PyData) : ∀ (xs : List α) (ys : List β), zipD (xs.map f) (ys.map g) = (xs.zip ys).map (enc2 f g)
  | [], _ => by simp [zipD]
  | _ :: _, [] => by simp [zipD]
  | x :: xs, y :: ys => by
    show _ :: _ = _ :: _
    rw [zipD_map f g xs ys]
    rfl
def bestF {α : Type} (key : α → Int) : List α → α → α
  | [], b => b
  | y :: ys, b => bestF key ys (if key y < key b then y else b)
/-- the first one of the least -/
def best {α : Type} (key : α → Int) : List α → Option α
  | [] => none
  | x :: xs => some (bestF key xs x)
@[simp] theorem ev_setAt (i : Nat) (fi fe : Dn) (ρ : Rho) : gSetAt i fi fe ρ = oR (fe ρ) ρ fun y => ownA ρ[i]? fun ds => match fi ρ with
  | .ok (.int k) => match ixN ds.length k with
    | some j => .nx (ρ.set i (some (.own (ds.set j y))))
    | none => .bad
  | _ => .bad := rfl
theorem ixN_ok {n : Nat} {i : Int} (h0 : 0 ≤ i) (h1 : i < (n : Int)) : ixN n i = some i.toNat := by
  unfold ixN
  rw [if_pos h0, if_pos h1]
@[simp] theorem oEq_li (a b : List Int) : oEq (li a) (li b) = .ok (.bool (decide (a = b))) := by simp [oEq]
@[simp] theorem oNe_li (a b : List Int) : oNe (li a) (li b) = .ok (.bool (!decide (a = b))) := by simp [oNe]
@[simp] theorem oEq_lt (a b : List (List Int)) : oEq (lt a) (lt b) = .ok (.bool (decide (a = b))) := by simp [oEq]
@[simp] theorem oNe_lt (a b : List (List Int)) : oNe (lt a) (lt b) = .ok (.bool (!decide (a = b))) := by simp [oNe]
end LW
set_option Elab.async false
set_option maxRecDepth 100000
set_option linter.all false
set_option maxHeartbeats 2000000
namespace LW
open PySem PySem.Spec PyProof.Rows L2 PD
@[simp] theorem oPow_10_30 : oPow (.int 10) (.int 30) = .ok (.int 1000000000000000000000000000000) := by
  have h : CPow 10 30 := ⟨by decide, by decide, by decide⟩
  show (if CPow 10 30 then R.ok (PyData.int (10 ^ (30 : Int).toNat)) else .bad) = _
  rw [if_pos h]; rfl
end LW
set_option Elab.async false
set_option maxRecDepth 100000
set_option linter.all false
set_option maxHeartbeats 2000000
namespace LW
open PySem PySem.Spec PyProof.Rows L2 PD
structure Pl where
  ls : List (List Int)
  C : List (List Int)
  w : Int
def plD (n : Int) (p : Pl) : PyData := .tuple [ofr n p.ls, tt p.C, .int p.w]
def plx (ps : List Pl) (i : Int) : Pl := (ps[i.toNat]?).getD ⟨[], [], 0⟩
/-- the sum of the weights of those whose lot has x -/
def wlz (zs : List (Pl × List Int)) (x : Int) : Int := (zs.map fun z => if x ∈ z.2 then z.1.w else 0).sum
def wl (ps : List Pl) (ch : List (List Int)) (x : Int) : Int := wlz (ps.zip ch) x
theorem wlz_append (as bs : List (Pl × List Int)) (x : Int) : wlz (as ++ bs) x = wlz as x + wlz bs x := by
  unfold wlz
  rw [List.map_append, List.sum_append]
/-- one more load on t -/
theorem set_range {n t : Int} (f : Int → Int) (v : Int) (h0 : 0 ≤ t) (h1 : t < n) : ((rangeI 0 n).map f).set t.toNat v = (rangeI 0 n).map fun x => if x = t then v else f x := by
  apply List.ext_getElem?
  intro j
  by_cases hj : t.toNat = j
  · subst hj
    rw [List.getElem?_set_self (by rw [List.length_map, rangeI_len]; omega), List.getElem?_map, rangeI_get (by omega)]
    simp
    omega
  · rw [List.getElem?_set_ne hj, List.getElem?_map, List.getElem?_map]
    cases e : (rangeI 0 n)[j]? with
    | none => rfl
    | some x =>
      have hl := (List.getElem?_eq_some_iff.mp e).1
      rw [rangeI_len] at hl
      rw [rangeI_get hl] at e
      cases e
      simp
      omega
theorem aug_ok {i j : Nat} {fi fe : Dn} {ρ : Rho} {ds : List PyData} {k y z : Int} (h : ρ[i]? = some (some (.own ds))) (h1 : fi ρ = .ok (.int k)) (h2 : fe ρ = .ok (.int y)) (h3 : ixN ds.length k = some j) (h4 : ds[j]? = some (.int z)) : gAugAt i fi fe ρ = .nx (ρ.set i (some (.own (ds.set j (.int (z + y)))))) := by
  unfold gAugAt ownAt
  rw [h]
  dsimp only
  rw [h1]
  dsimp only
  rw [h2]
  dsimp only
  rw [h3]
  dsimp only
  rw [h4]
theorem ownR_range (n : Int) (f : Int → Int) (x : Int) (h0 : 0 ≤ x) (h1 : x < n) : (((rangeI 0 n).map f).map PyData.int)[x.toNat]? = some (.int (f x)) := by
  rw [List.getElem?_map, List.getElem?_map, rangeI_get (by omega)]
  simp
  congr 1
  omega
theorem v_count_loads (n : Int) (ps : List Pl) (ch : List (List Int)) (h0 : 0 ≤ n) (h1 : n ≤ 900) (hc : ∀ l ∈ ch, Asc n l) : m_count_loads [.int n, .list (ps.map (plD n)), tt ch] = .ok (tu ((rangeI 0 n).map (wl ps ch))) := by
  show endR (g_count_loads [some (.d (.int n)), some (.d (.list (ps.map (plD n)))), some (.d (tt ch)), none, none, none, none, none]) = _
  generalize hP : PyData.list (ps.map (plD n)) = P
  have st : ∀ (f : Int → Int) (p : Pl) (l done rest : List Int) (o6 : Option Sl), Asc n l → done ++ rest = l →
      ∃ o6', forGo (.nm 6) b_count_loads_1 (rest.map .int) [some (.d (.int n)), some (.d P), some (.d (tt ch)), some (.own (((rangeI 0 n).map fun x => f x + if x ∈ done then p.w else 0).map .int)), some (.d (plD n p)), some (.d (tu l)), o6, none] =
        .nx [some (.d (.int n)), some (.d P), some (.d (tt ch)), some (.own (((rangeI 0 n).map fun x => f x + if x ∈ l then p.w else 0).map .int)), some (.d (plD n p)), some (.d (tu l)), o6', none] := by
    intro f p l done rest
    induction rest generalizing done with
    | nil => intro o6 ha e; rw [List.append_nil] at e; subst e; exact ⟨o6, rfl⟩
    | cons t rest ih =>
      intro o6 ha e
      have ht : t ∈ l := by rw [← e]; simp
      have tb := ha.2 t ht
      have nt : ¬ t ∈ done := fun z => by
        have nd := ha.nodup
        rw [← e] at nd
        exact (List.nodup_append.mp nd).2.2 t z t List.mem_cons_self rfl
      obtain ⟨o6', ih⟩ := ih (done ++ [t]) (some (.d (.int t))) ha (by rw [List.append_assoc]; exact e)
      refine ⟨o6', Eq.trans ?_ ih⟩
      rw [List.map_cons]
      conv => lhs; unfold forGo
      rw [set_nm]
      have a1 := aug_ok (i := 3) (fi := dVar 6) (fe := dTwo oIx (dVar 4) (dC (.int 2))) (k := t) (y := p.w) (j := t.toNat) (z := f t + if t ∈ done then p.w else 0)
        (ρ := [some (.d (.int n)), some (.d P), some (.d (tt ch)), some (.own (((rangeI 0 n).map fun x => f x + if x ∈ done then p.w else 0).map .int)), some (.d (plD n p)), some (.d (tu l)), some (.d (.int t)), none]) rfl rfl rfl (ixN_ok tb.1 (by rw [List.length_map, List.length_map, rangeI_len]; omega)) (ownR_range n _ t tb.1 tb.2)
      have a2 : b_count_loads_1 ([some (.d (.int n)), some (.d P), some (.d (tt ch)), some (.own (((rangeI 0 n).map fun x => f x + if x ∈ done then p.w else 0).map .int)), some (.d (plD n p)), some (.d (tu l)), o6, none].set 6 (some (.d (.int t)))) = .nx [some (.d (.int n)), some (.d P), some (.d (tt ch)), some (.own (((rangeI 0 n).map fun x => f x + if x ∈ done ++ [t] then p.w else 0).map .int)), some (.d (plD n p)), some (.d (tu l)), some (.d (.int t)), none] := by
        refine a1.trans ?_
        have s1 : (((rangeI 0 n).map fun x => f x + if x ∈ done then p.w else 0).map PyData.int).set t.toNat (.int (f t + (if t ∈ done then p.w else 0) + p.w)) = ((rangeI 0 n).map fun x => f x + if x ∈ done ++ [t] then p.w else 0).map PyData.int := by
          rw [← List.map_set, set_range _ _ tb.1 tb.2]
          congr 1
          refine List.map_congr_left fun x _ => ?_
          by_cases hx : x = t
          · subst hx
            simp [nt]
          · simp [hx]
        rw [s1]
        rfl
      dsimp only
      rw [a2]
  have key := forGo_invT (t := .tp [.nm 4, .nm 5]) (g := b_count_loads_2) (enc := enc2 (plD n) tu) (fun xs ρ => ∃ (done : List (Pl × List Int)) (o4 o5 o6 : Option Sl), ρ = [some (.d (.int n)), some (.d P), some (.d (tt ch)), some (.own (((rangeI 0 n).map (wlz done)).map .int)), o4, o5, o6, none] ∧ done ++ xs = ps.zip ch) (by
    rintro ⟨p, l⟩ xs ρ ⟨done, o4, o5, o6, rfl, e⟩
    have hl : l ∈ ch := (List.of_mem_zip (a := p) (b := l) (l₁ := ps) (l₂ := ch) (by rw [← e]; simp)).2
    obtain ⟨o6', r⟩ := st (wlz done) p l [] l o6 (hc l hl) rfl
    refine ⟨_, [some (.d (.int n)), some (.d P), some (.d (tt ch)), some (.own (((rangeI 0 n).map (wlz (done ++ [(p, l)]))).map .int)), some (.d (plD n p)), some (.d (tu l)), o6', none], set_tp2 4 5 (plD n p) (tu l) _, ?_, done ++ [(p, l)], _, _, _, rfl, by rw [List.append_assoc]; exact e⟩
    have e1 : (fun x => wlz (done ++ [(p, l)]) x) = fun x => wlz done x + if x ∈ l then p.w else 0 := by
      funext x
      rw [wlz_append]
      simp [wlz]
    have e2 : (fun x => wlz done x + if x ∈ ([] : List Int) then p.w else 0) = wlz done := by funext x; simp
    rw [e2] at r
    have e3 : wlz (done ++ [(p, l)]) = fun x => wlz done x + if x ∈ l then p.w else 0 := e1
    rw [e3]
    exact Eq.trans (show b_count_loads_2 [some (.d (.int n)), some (.d P), some (.d (tt ch)), some (.own (((rangeI 0 n).map (wlz done)).map .int)), some (.d (plD n p)), some (.d (tu l)), o6, none] = forGo (.nm 6) b_count_loads_1 (l.map PyData.int) [some (.d (.int n)), some (.d P), some (.d (tt ch)), some (.own (((rangeI 0 n).map (wlz done)).map .int)), some (.d (plD n p)), some (.d (tu l)), o6, none] from rfl) r)
  have e0 : (rangeI 0 n).map (wlz []) = (rangeI 0 n).map fun _ => (0 : Int) := rfl
  obtain ⟨ρ', e, done, o4, o5, o6, rfl, hz⟩ := key (ps.zip ch) [some (.d (.int n)), some (.d P), some (.d (tt ch)), some (.own (((rangeI 0 n).map (wlz [])).map .int)), none, none, none, none] ⟨[], none, none, none, rfl, rfl⟩
  rw [List.append_nil] at hz
  subst hz
  have ez : zipD (ps.map (plD n)) (ch.map tu) = (ps.zip ch).map (enc2 (plD n) tu) := zipD_map _ _ _ _
  have ei : items P = .ok (ps.map (plD n)) := by rw [← hP]; rfl
  have l0 : dLc (dRng1 (dCons (dVar 0) dNil)) (.nm 7) dYes (dC (.int 0)) [7] [some (.d (.int n)), some (.d P), some (.d (tt ch)), none, none, none, none, none] = .ok (.list (((rangeI 0 n).map (wlz [])).map .int)) := by
    have := lc_of (enc := PyData.int) (fi := dRng1 (dCons (dVar 0) dNil)) (t := .nm 7) (ft := dYes) (fe := dC (.int 0)) (vs := [7]) (ρ := [some (.d (.int n)), some (.d P), some (.d (tt ch)), none, none, none, none, none]) (xs := rangeI 0 n) (st := fun x => [some (.d (.int n)), some (.d P), some (.d (tt ch)), none, none, none, none, some (.d (.int x))]) (q := fun _ => true) (g := fun _ => .int 0) (rngA1_ok (n := n) (by omega) (by omega)) fun x _ => ⟨by simp, rfl, fun _ => rfl⟩
    rw [this, List.filter_eq_self.mpr (fun _ _ => rfl), List.map_map]
    rfl
  have ew2 : wl ps ch = wlz (ps.zip ch) := rfl
  have g1 : gOwn (dLc (dRng1 (dCons (dVar 0) dNil)) (.nm 7) dYes (dC (.int 0)) [7]) 3 [some (.d (.int n)), some (.d P), some (.d (tt ch)), none, none, none, none, none] = .nx [some (.d (.int n)), some (.d P), some (.d (tt ch)), some (.own (((rangeI 0 n).map (wlz [])).map .int)), none, none, none, none] := by
    rw [ev_own, l0]
    rfl
  have g2 : gFor (dZip (dCons (dVar 1) (dCons (dVar 2) dNil))) (.tp [(.nm 4), (.nm 5)]) b_count_loads_2 [some (.d (.int n)), some (.d P), some (.d (tt ch)), some (.own (((rangeI 0 n).map (wlz [])).map .int)), none, none, none, none] = .nx [some (.d (.int n)), some (.d P), some (.d (tt ch)), some (.own (((rangeI 0 n).map (wlz (ps.zip ch))).map .int)), o4, o5, o6, none] := by
    rw [ev_for]
    simp only [ev_zip, ev_cons, ev_nil, ev_var, List.getElem?_cons_succ, List.getElem?_cons_zero, varR_d, R.bind_ok, zipA_2, ei, items_tt, ez, oR_ok]
    exact e
  rw [ew2]
  unfold g_count_loads
  rw [ev_seq, g1, seqO_nx, ev_seq, g2, seqO_nx]
  simp [-List.map_map]
def cost (C : List (List Int)) (x k : Int) : Int := ixv (ixr C x) (k - 1)
theorem v_cost_at (C : List (List Int)) (x k : Int) (h0 : 0 ≤ x) (h1 : x < (C.length : Int)) (h2 : 1 ≤ k) (h3 : k ≤ ((ixr C x).length : Int)) : m_cost_at [tt C, .int x, .int k] = .ok (.int (cost C x k)) := by
  show endR (g_cost_at [some (.d (tt C)), some (.d (.int x)), some (.d (.int k))]) = _
  simp [g_cost_at, ix_tt h0 h1, ix_tu (L := ixr C x) (i := k - 1) (by omega) (by omega), cost]
structure Play (n : Int) (ps : List Pl) : Prop where
  n0 : 0 ≤ n
  n1 : n ≤ 900
  good : ∀ p ∈ ps, Good n p.ls
  rows : ∀ p ∈ ps, (p.C.length : Int) = n
  room : ∀ p ∈ ps, ∀ r ∈ p.C, (ps.map fun p => p.w).sum ≤ (r.length : Int)
  w1 : ∀ p ∈ ps, 1 ≤ p.w
structure Chs (ps : List Pl) (ch : List (List Int)) : Prop where
  len : ch.length = ps.length
  mem : ∀ i, 0 ≤ i → i < (ps.length : Int) → ixr ch i ∈ (plx ps i).ls
theorem plx_mem {ps : List Pl} {i : Int} (h0 : 0 ≤ i) (h1 : i < (ps.length : Int)) : plx ps i ∈ ps := by
  have hl : i.toNat < ps.length := by omega
  unfold plx
  rw [List.getElem?_eq_getElem hl]
  exact List.getElem_mem hl
theorem Chs.asc {n : Int} {ps : List Pl} {ch : List (List Int)} (P : Play n ps) (c : Chs ps ch) : ∀ l ∈ ch, Asc n l := fun l hl => by
  obtain ⟨j, hj, e⟩ := List.getElem_of_mem hl
  have := c.len
  have m := c.mem j (by omega) (by omega)
  have e2 : ixr ch j = l := by
    unfold ixr
    rw [show ((j : Int)).toNat = j by omega, List.getElem?_eq_getElem hj, e]; rfl
  rw [e2] at m
  exact (P.good _ (plx_mem (by omega) (by omega))).asc l m
def opr (ps : List Pl) (ch : List (List Int)) (i x : Int) : Int := cost (plx ps i).C x (wl ps ch x + if x ∈ ixr ch i then 0 else (plx ps i).w)
end LW
set_option Elab.async false
set_option maxRecDepth 100000
set_option linter.all false
set_option maxHeartbeats 2000000
namespace LW
open PySem PySem.Spec PyProof.Rows L2 PD
/-- rows of one length whose entries don't fall -/
def Rows (n m : Int) (C : List (List Int)) : Prop := (C.length : Int) = n ∧ ∀ r ∈ C, (r.length : Int) = m ∧ r.Pairwise (· ≤ ·)
def tkD (n : Int) (p : Pl) : PyData := .tuple [ofr n p.ls, tt p.C]
def gmD (n : Int) (ps : List Pl) : PyData := .tuple (ps.map (tkD n))
structure Game (n : Int) (ps : List Pl) : Prop extends Play n ps where
  one : ∀ p ∈ ps, p.w = 1
  up : ∀ p ∈ ps, ∀ r ∈ p.C, r.Pairwise (· ≤ ·)
theorem sum_one {ps : List Pl} (h : ∀ p ∈ ps, p.w = 1) : (ps.map fun p => p.w).sum = ps.length := by
  induction ps with
  | nil => rfl
  | cons p ps ih =>
    rw [List.map_cons, List.sum_cons, ih fun q hq => h q (List.mem_cons_of_mem _ hq), h p List.mem_cons_self, List.length_cons]
    omega
theorem ix_tk {ps : List Pl} {n i : Int} (h0 : 0 ≤ i) (h1 : i < (ps.length : Int)) : oIx (gmD n ps) (.int i) = .ok (tkD n (plx ps i)) := by
  have hl : i.toNat < ps.length := by omega
  have e : (ps)[i.toNat]? = some (plx ps i) := by
    unfold plx
    rw [List.getElem?_eq_getElem hl]; rfl
  show (match atI (ps.map (tkD n)) i with | some d => R.ok d | none => .bad) = _
  rw [atI_get (tkD n) h0 e]
theorem len_gm (n : Int) (ps : List Pl) : bLen [gmD n ps] = .ok (.int ps.length) := by simp [bLen, gmD]
theorem v_players (n : Int) (ps : List Pl) (h : ∀ p ∈ ps, p.w = 1) : m_players [gmD n ps] = .ok (.list (ps.map (plD n))) := by
  show endR (g_players [some (.d (gmD n ps)), none, none]) = _
  have e := lc_of (enc := tkD n) (fi := dItems (dVar 0)) (t := .tp [.nm 1, .nm 2]) (ft := dYes) (fe := dTup (dCons (dVar 1) (dCons (dVar 2) (dCons (dC (.int 1)) dNil)))) (vs := [1, 2]) (ρ := [some (.d (gmD n ps)), none, none]) (xs := ps) (st := fun p => [some (.d (gmD n ps)), some (.d (ofr n p.ls)), some (.d (tt p.C))]) (q := fun _ => true) (g := plD n) rfl fun p hp => ⟨by simp [tkD], rfl, fun _ => by simp [plD, h p hp]⟩
  rw [List.filter_eq_self.mpr (fun _ _ => rfl)] at e
  unfold g_players
  rw [ev_ret, e]
  rfl
end LW
set_option Elab.async false
set_option maxRecDepth 100000
set_option linter.all false
set_option maxHeartbeats 2000000
namespace LW
open PySem PySem.Spec PyProof.Rows L2 PD
/-- with weights of 1: the number of lots that have x -/
def load (ch : List (List Int)) (x : Int) : Int := ((ch.filter fun l => decide (x ∈ l)).length : Int)
theorem wl_load : ∀ {ps : List Pl} {ch : List (List Int)}, (∀ p ∈ ps, p.w = 1) → ch.length = ps.length → ∀ x, wl ps ch x = load ch x
  | [], [], _, _, x => rfl
  | [], _ :: _, _, e, _ => by cases e
  | _ :: _, [], _, e, _ => by cases e
  | p :: ps, l :: ch, h, e, x => by
    have ih := wl_load (ps := ps) (ch := ch) (fun q hq => h q (List.mem_cons_of_mem _ hq)) (by simpa using e) x
    have hw := h p List.mem_cons_self
    have e1 : wl (p :: ps) (l :: ch) x = (if x ∈ l then p.w else 0) + wl ps ch x := rfl
    rw [e1, ih, hw]
    unfold load
    by_cases hx : x ∈ l
    · rw [if_pos hx, List.filter_cons_of_pos (by simpa using hx), List.length_cons]; omega
    · rw [if_neg hx, List.filter_cons_of_neg (by simpa using hx)]; omega
theorem sum_congr {l : List Int} {f g : Int → Int} (h : ∀ x ∈ l, f x = g x) : (l.map f).sum = (l.map g).sum := by rw [List.map_congr_left h]
theorem chs_asc {n : Int} {ps : List Pl} {ch : List (List Int)} (P : Play n ps) (c : Chs ps ch) {i : Int} (h0 : 0 ≤ i) (h1 : i < (ps.length : Int)) : Asc n (ixr ch i) := (P.good _ (plx_mem h0 h1)).asc _ (c.mem i h0 h1)
theorem v_loads (n : Int) (ps : List Pl) (ch : List (List Int)) (G : Game n ps) (c : Chs ps ch) : m_loads [gmD n ps, tt ch] = .ok (tu ((rangeI 0 (if ps = [] then 0 else n)).map (load ch))) := by
  show endR (g_loads [some (.d (gmD n ps)), some (.d (tt ch)), none]) = _
  have ew : wl ps ch = load ch := funext fun x => wl_load G.one c.len x
  have ep := v_players n ps G.one
  by_cases hz : ps = []
  · subst hz
    have hc : ch = [] := List.length_eq_zero_iff.mp c.len
    subst hc
    have e : m_count_loads [.int 0, .list [], tt []] = .ok (tu ((rangeI 0 0).map (wl [] []))) := v_count_loads 0 [] [] (by decide) (by decide) (by simp)
    rw [ew] at e
    have ep : m_players [gmD n []] = .ok (.list []) := ep
    have e0 : bLen [gmD n []] = .ok (.int 0) := rfl
    simp [g_loads, e0, ep, e, -List.map_map]
  · have hp := List.length_pos_iff.mpr hz
    have e := v_count_loads n ps ch G.n0 G.n1 (c.asc G.toPlay)
    rw [ew] at e
    have g : (0 : Int) < (ps.length : Int) := by omega
    have o1 : oIx (tkD n (plx ps 0)) (.int 0) = .ok (ofr n (plx ps 0).ls) := rfl
    have o2 : oIx (ofr n (plx ps 0).ls) (.int 0) = .ok (.int n) := rfl
    simp [g_loads, len_gm, hp, ix_tk (n := n) (by decide) g, o1, o2, ep, e, hz, -List.map_map]
theorem v_law_loads (ch : List (List Int)) (n : Int) (h0 : 0 ≤ n) (h1 : n ≤ 900) : m_law_loads [tt ch, .int n] = .ok (li ((rangeI 0 n).map (load ch))) := by
  show endR (g_law_loads [some (.d (tt ch)), some (.d (.int n)), none, none]) = _
  simp [g_law_loads, rngA1_ok (n := n) (by omega) (by omega)]
  rfl
end LW
set_option Elab.async false
set_option maxRecDepth 100000
set_option linter.all false
set_option maxHeartbeats 2000000
namespace LW
open PySem PySem.Spec PyProof.Rows L2 PD
def withL (ch : List (List Int)) (i : Int) (l : List Int) : List (List Int) := ch.set i.toNat l
theorem oAdd_tt {a b : List (List Int)} (h : a.length + b.length ≤ 100000) : oAdd (tt a) (tt b) = .ok (tt (a ++ b)) := by
  show (if (a.map tu).length + (b.map tu).length ≤ sizeLine then R.ok (PyData.tuple (a.map tu ++ b.map tu)) else .bad) = _
  rw [List.length_map, List.length_map, if_pos (by rw [sizeLine_eq]; omega), ← List.map_append]
  rfl
theorem tt_1 (a : List Int) : PyData.tuple [tu a] = tt [a] := rfl
theorem cut_to {ch : List (List Int)} {k : Nat} (h : k ≤ ch.length) : oCut (tt ch) none (some (k : Int)) = .ok (tt (ch.take k)) := by
  show R.ok (PyData.tuple (PD.cutD (ch.map tu) none (some (k : Int)))) = _
  unfold PD.cutD
  rw [HT.sIx_nat, HT.sIx_none, List.length_map, Nat.min_eq_left h, List.drop_zero, Nat.sub_zero, ← List.map_take]
  rfl
theorem cut_from {ch : List (List Int)} {k : Nat} (h : k ≤ ch.length) : oCut (tt ch) (some (k : Int)) none = .ok (tt (ch.drop k)) := by
  show R.ok (PyData.tuple (PD.cutD (ch.map tu) (some (k : Int)) none)) = _
  unfold PD.cutD
  rw [HT.sIx_nat, HT.sIx_none, List.length_map, Nat.min_eq_left h, ← List.map_drop, List.take_of_length_le (by rw [List.length_map, List.length_drop]; omega)]
  rfl
theorem cut_to' {ch : List (List Int)} {i : Int} (h0 : 0 ≤ i) (h1 : i < (ch.length : Int)) : oCut (tt ch) none (some i) = .ok (tt (ch.take i.toNat)) := by
  have := cut_to (ch := ch) (k := i.toNat) (by omega)
  rwa [show ((i.toNat : Nat) : Int) = i by omega] at this
theorem cut_from' {ch : List (List Int)} {i : Int} (h0 : 0 ≤ i) (h1 : i < (ch.length : Int)) : oCut (tt ch) (some (i + 1)) none = .ok (tt (ch.drop (i.toNat + 1))) := by
  have := cut_from (ch := ch) (k := i.toNat + 1) (by omega)
  rwa [show ((i.toNat + 1 : Nat) : Int) = i + 1 by omega] at this
theorem with_eq {ch : List (List Int)} {i : Int} {l : List Int} (h0 : 0 ≤ i) (h1 : i < (ch.length : Int)) : ch.take i.toNat ++ [l] ++ ch.drop (i.toNat + 1) = withL ch i l := by
  unfold withL
  rw [List.set_eq_take_append_cons_drop, if_pos (by omega), List.append_assoc]
  rfl
theorem v_law_with (ch : List (List Int)) (i : Int) (l : List Int) (h0 : 0 ≤ i) (h1 : i < (ch.length : Int)) (hz : ch.length ≤ 900) : m_law_with [tt ch, .int i, tu l] = .ok (tt (withL ch i l)) := by
  show endR (g_law_with [some (.d (tt ch)), some (.d (.int i)), some (.d (tu l))]) = _
  have a1 : oAdd (tt (ch.take i.toNat)) (tt [l]) = .ok (tt (ch.take i.toNat ++ [l])) := oAdd_tt (by rw [List.length_take, List.length_singleton]; omega)
  have a2 : oAdd (tt (ch.take i.toNat ++ [l])) (tt (ch.drop (i.toNat + 1))) = .ok (tt (withL ch i l)) := by
    rw [oAdd_tt (by rw [List.length_append, List.length_take, List.length_singleton, List.length_drop]; omega), with_eq h0 h1]
  simp [g_law_with, cut_to' h0 h1, cut_from' h0 h1, tt_1, a1, a2]
theorem with_at {ch : List (List Int)} {i j : Int} {l : List Int} (h0 : 0 ≤ i) (h1 : i < (ch.length : Int)) (hj : 0 ≤ j) : ixr (withL ch i l) j = if j = i then l else ixr ch j := by
  unfold withL ixr
  by_cases e : j = i
  · subst e
    rw [if_pos rfl, List.getElem?_set_self (by omega)]
    rfl
  · rw [if_neg e, List.getElem?_set_ne (by omega)]
theorem with_len {ch : List (List Int)} {i : Int} {l : List Int} : (withL ch i l).length = ch.length := by unfold withL; rw [List.length_set]
theorem Chs.with {ps : List Pl} {ch : List (List Int)} {i : Int} {l : List Int} (c : Chs ps ch) (h0 : 0 ≤ i) (h1 : i < (ps.length : Int)) (hl : l ∈ (plx ps i).ls) : Chs ps (withL ch i l) :=
  ⟨by rw [with_len]; exact c.len, fun j j0 j1 => by
    rw [with_at h0 (by rw [c.len]; exact h1) j0]
    by_cases e : j = i
    · rw [if_pos e, e]; exact hl
    · rw [if_neg e]; exact c.mem j j0 j1⟩
theorem wlz_set : ∀ {ps : List Pl} {ch : List (List Int)} {k : Nat} {l : List Int}, ch.length = ps.length → (h : k < ps.length) → ∀ x, wl ps (ch.set k l) x + (if x ∈ (ch[k]?).getD [] then ((ps[k]?).getD ⟨[], [], 0⟩).w else 0) = wl ps ch x + (if x ∈ l then ((ps[k]?).getD ⟨[], [], 0⟩).w else 0)
  | [], _, k, l, _, h, _ => absurd h (by simp)
  | p :: ps, [], k, l, e, _, _ => by cases e
  | p :: ps, m :: ch, 0, l, e, _, x => by
    have e1 : wl (p :: ps) (l :: ch) x = (if x ∈ l then p.w else 0) + wl ps ch x := rfl
    have e2 : wl (p :: ps) (m :: ch) x = (if x ∈ m then p.w else 0) + wl ps ch x := rfl
    rw [List.set_cons_zero, e1, e2]
    show _ + (if x ∈ m then p.w else 0) = _ + (if x ∈ l then p.w else 0)
    omega
  | p :: ps, m :: ch, k + 1, l, e, h, x => by
    have ih := wlz_set (ps := ps) (ch := ch) (k := k) (l := l) (by simpa using e) (by simpa using h) x
    have e1 : wl (p :: ps) (m :: ch.set k l) x = (if x ∈ m then p.w else 0) + wl ps (ch.set k l) x := rfl
    have e2 : wl (p :: ps) (m :: ch) x = (if x ∈ m then p.w else 0) + wl ps ch x := rfl
    rw [List.set_cons_succ, e1, e2, List.getElem?_cons_succ, List.getElem?_cons_succ]
    omega
theorem wl_with {ps : List Pl} {ch : List (List Int)} {i : Int} {l : List Int} (c : Chs ps ch) (h0 : 0 ≤ i) (h1 : i < (ps.length : Int)) (x : Int) : wl ps (withL ch i l) x + (if x ∈ ixr ch i then (plx ps i).w else 0) = wl ps ch x + (if x ∈ l then (plx ps i).w else 0) :=
  wlz_set c.len (by omega) x
/-- the own prices -/
def own (n : Int) (ps : List Pl) (ch : List (List Int)) (i : Int) : List Int := (rangeI 0 n).map (opr ps ch i)
end LW
set_option Elab.async false
set_option linter.all false
set_option maxRecDepth 100000
set_option maxHeartbeats 4000000
set_option Elab.async false
set_option maxRecDepth 100000
set_option linter.all false
set_option maxHeartbeats 2000000
set_option Elab.async false
set_option linter.all false
set_option maxRecDepth 100000
set_option maxHeartbeats 4000000
set_option Elab.async false
set_option maxRecDepth 100000
set_option linter.all false
set_option maxHeartbeats 2000000
namespace LW
open PySem PySem.Spec PyProof.Rows L2 PD
/-- the costs at the loads 1 .. m -/
def upTo (C : List (List Int)) (x : Int) (m : Int) : Int := ((ixr C x).take m.toNat).sum
theorem upTo_succ {C : List (List Int)} {x m : Int} (h0 : 0 ≤ m) (h1 : m < ((ixr C x).length : Int)) : upTo C x (m + 1) = upTo C x m + cost C x (m + 1) := by
  unfold upTo cost ixv
  have e : (m + 1).toNat = m.toNat + 1 := by omega
  have e2 : (m + 1 - 1).toNat = m.toNat := by omega
  rw [e, e2, List.take_add_one, List.sum_append]
  have hl : m.toNat < (ixr C x).length := by omega
  rw [List.getElem?_eq_getElem hl]
  simp
def crowd (n : Int) (C : List (List Int)) (f : Int → Int) : Int := ((rangeI 0 n).map fun x => upTo C x (f x)).sum
theorem sum_add {l : List Int} (f g : Int → Int) : (l.map fun x => f x + g x).sum = (l.map f).sum + (l.map g).sum := by
  induction l with
  | nil => rfl
  | cons a l ih => simp only [List.map_cons, List.sum_cons, ih]; omega
theorem sum_on {n : Int} {l : List Int} (h : Asc n l) (f : Int → Int) : ((rangeI 0 n).map fun x => if x ∈ l then f x else 0).sum = (l.map f).sum := by
  have e : (rangeI 0 n).filter (fun x => decide (x ∈ l)) = l := asc_ext (asc_rest n _).1 h.1 fun y => by
    rw [List.mem_filter, mem_rangeI, decide_eq_true_iff]
    exact ⟨fun q => q.2, fun q => ⟨h.2 y q, q⟩⟩
  have : ∀ r : List Int, (r.map fun x => if x ∈ l then f x else 0).sum = ((r.filter fun x => decide (x ∈ l)).map f).sum := fun r => by
    induction r with
    | nil => rfl
    | cons a r ih =>
      by_cases q : a ∈ l
      · simp [List.filter_cons, q, ih]
      · simp [List.filter_cons, q, ih]
  rw [this, e]
theorem load_wl {n : Int} {ps : List Pl} {ch : List (List Int)} (G : Game n ps) (c : Chs ps ch) (x : Int) : load ch x = wl ps ch x := (wl_load G.one c.len x).symm
structure Same (n : Int) (ps : List Pl) (C : List (List Int)) : Prop extends Game n ps where
  same : ∀ p ∈ ps, p.C = C
theorem Same.room1 {n : Int} {ps : List Pl} {C : List (List Int)} (A : Same n ps C) {i : Int} (h0 : 0 ≤ i) (h1 : i < (ps.length : Int)) : (C.length : Int) = n ∧ ∀ x, 0 ≤ x → x < n → (ps.length : Int) ≤ ((ixr C x).length : Int) := by
  have m := plx_mem h0 h1
  have e := A.same _ m
  have l := A.rows _ m
  rw [e] at l
  refine ⟨l, fun x x0 x1 => ?_⟩
  have := A.room _ m (ixr C x) (by rw [e]; exact ixr_mem x0 (by omega))
  rw [sum_one A.one] at this
  exact this
end LW
set_option Elab.async false
set_option maxRecDepth 100000
set_option linter.all false
set_option maxHeartbeats 2000000
namespace LW
open PySem PySem.Spec PyProof.Rows L2 PD
theorem load_le {ch : List (List Int)} {x : Int} : 0 ≤ load ch x ∧ load ch x ≤ (ch.length : Int) := by
  unfold load
  have := List.length_filter_le (fun l => decide (x ∈ l)) ch
  omega
end LW
set_option Elab.async false
set_option maxRecDepth 100000
set_option linter.all false
set_option maxHeartbeats 2000000
set_option Elab.async false
set_option maxRecDepth 100000
set_option linter.all false
set_option maxHeartbeats 2000000
set_option Elab.async false
set_option maxRecDepth 100000
set_option linter.all false
set_option maxHeartbeats 2000000
set_option Elab.async false
set_option maxRecDepth 100000
set_option linter.all false
set_option maxHeartbeats 2000000
namespace LW
open PySem PySem.Spec PyProof.Rows L2 PD
def addC (cs : List (List (List Int))) (ls : List (List Int)) : List (List (List Int)) := cs.flatMap fun c => ls.map fun l => c ++ [l]
def foldC (ps : List Pl) (cs : List (List (List Int))) : List (List (List Int)) := ps.foldl (fun cs p => addC cs p.ls) cs
def allC (ps : List Pl) : List (List (List Int)) := foldC ps [[]]
theorem addC_len (cs : List (List (List Int))) (ls : List (List Int)) : (addC cs ls).length = cs.length * ls.length := by
  unfold addC
  induction cs with
  | nil => simp
  | cons c cs ih => rw [List.flatMap_cons, List.length_append, ih, List.length_map, List.length_cons, Nat.add_mul, Nat.one_mul, Nat.add_comm]
theorem foldC_len (b : Nat) : ∀ (qs : List Pl) (cs : List (List (List Int))), (∀ q ∈ qs, q.ls.length ≤ b) → (foldC qs cs).length ≤ cs.length * b ^ qs.length
  | [], cs, _ => by simp [foldC]
  | q :: qs, cs, h => by
    have := foldC_len b qs (addC cs q.ls) fun y hy => h y (List.mem_cons_of_mem _ hy)
    refine Nat.le_trans this ?_
    rw [addC_len, List.length_cons, Nat.pow_succ, Nat.mul_comm (b ^ qs.length) b, ← Nat.mul_assoc]
    exact Nat.mul_le_mul_right _ (Nat.mul_le_mul_left _ (h q List.mem_cons_self))
theorem nodup_len {α : Type} [DecidableEq α] : ∀ {xs ys : List α}, xs.Nodup → (∀ x ∈ xs, x ∈ ys) → xs.length ≤ ys.length
  | [], ys, _, _ => Nat.zero_le _
  | x :: xs, ys, hn, h => by
    obtain ⟨h1, h2⟩ := List.nodup_cons.mp hn
    have hx := h x List.mem_cons_self
    have := nodup_len (xs := xs) (ys := ys.erase x) h2 fun y hy => (List.mem_erase_of_ne (by rintro rfl; exact h1 hy)).mpr (h y (List.mem_cons_of_mem _ hy))
    rw [List.length_erase_of_mem hx] at this
    have := List.length_pos_of_mem hx
    rw [List.length_cons]
    omega
/-- few choices: b lots each at most, and b to their number not over 5000 -/
structure Few (ps : List Pl) (b : Nat) : Prop where
  pos : 1 ≤ b
  each : ∀ p ∈ ps, p.ls.length ≤ b
  all : b ^ ps.length ≤ 5000
theorem Few.len {ps : List Pl} {b : Nat} (f : Few ps b) : (allC ps).length ≤ 5000 := by
  have := foldC_len b ps [[]] f.each
  rw [List.length_singleton, Nat.one_mul] at this
  exact Nat.le_trans this f.all
theorem tk_p0 (n : Int) (p : Pl) : oIx (tkD n p) (.int 0) = .ok (ofr n p.ls) := rfl
theorem tk_p1 (n : Int) (p : Pl) : oIx (tkD n p) (.int 1) = .ok (tt p.C) := rfl
theorem of_p0 (n : Int) (ls : List (List Int)) : oIx (ofr n ls) (.int 0) = .ok (.int n) := rfl
theorem of_p1 (n : Int) (ls : List (List Int)) : oIx (ofr n ls) (.int 1) = .ok (tt ls) := rfl
end LW
set_option Elab.async false
set_option maxRecDepth 100000
set_option linter.all false
set_option maxHeartbeats 2000000
set_option Elab.async false
set_option maxRecDepth 100000
set_option linter.all false
set_option maxHeartbeats 2000000
set_option Elab.async false
set_option maxRecDepth 100000
set_option linter.all false
set_option maxHeartbeats 2000000
namespace LW
open PySem PySem.Spec PyProof.Rows L2 PD
def dif (l o : List Int) : Nat := (l.filter fun y => !decide (y ∈ o)).length
theorem dif_lt {l k o : List Int} {y : Int} (nk : k.Nodup) (hy : y ∈ l) (hyo : ¬ y ∈ o) (h : ∀ z ∈ k, ¬ z ∈ o → z ∈ l ∧ ¬ z = y) : dif k o < dif l o := by
  unfold dif
  have hm : y ∈ l.filter fun y => !decide (y ∈ o) := List.mem_filter.mpr ⟨hy, by simpa using hyo⟩
  have hsub := nodup_len (xs := k.filter fun y => !decide (y ∈ o)) (ys := (l.filter fun y => !decide (y ∈ o)).erase y) (nk.filter _) fun z hz => by
    obtain ⟨a, b⟩ := List.mem_filter.mp hz
    have b' : ¬ z ∈ o := by simpa using b
    obtain ⟨c, d⟩ := h z a b'
    exact (List.mem_erase_of_ne d).mpr (List.mem_filter.mpr ⟨c, b⟩)
  rw [List.length_erase_of_mem hm] at hsub
  have := List.length_pos_of_mem hm
  omega
theorem asc_full {n : Int} {a b : List Int} (ha : Asc n a) (hb : Asc n b) (hl : a.length = b.length) (h : ∀ y ∈ a, y ∈ b) : a = b := (asc_sub ha.1 hb.1 h).eq_of_length hl
theorem no_all {n : Int} {ls : List (List Int)} (s : Smooth n ls) {b2 : List Int} {x : Int} (h2 : b2 ∈ ls) (hx2 : ¬ x ∈ b2) : ∀ (k : Nat) {D : List Int}, dif D b2 ≤ k → D ∈ ls → x ∈ D → (∀ t ∈ b2, exch b2 t x ∈ ls → t ∈ D) → False := by
  have a2 := s.good.asc _ h2
  intro k
  induction k with
  | zero =>
    intro D hk hD hxD hC
    have : x ∈ D.filter fun y => !decide (y ∈ b2) := List.mem_filter.mpr ⟨hxD, by simpa using hx2⟩
    have := List.length_pos_of_mem this
    unfold dif at hk
    omega
  | succ k ih =>
    intro D hk hD hxD hC
    have aD := s.good.asc _ hD
    by_cases q : ∃ y ∈ D, ¬ y ∈ b2 ∧ ¬ y = x
    · obtain ⟨y, hy, hy2, hyx⟩ := q
      obtain ⟨t, ht, htD, hE⟩ := s.exc D hD y hy b2 h2 hy2
      have aE := s.good.asc _ hE
      refine ih (D := exch D y t) ?_ hE (mem_exch.mpr (.inl ⟨hxD, fun e => hyx e.symm⟩)) fun c hc he => mem_exch.mpr (.inl ⟨hC c hc he, fun e => hy2 (e ▸ hc)⟩)
      have := dif_lt (l := D) (k := exch D y t) (o := b2) (y := y) aE.nodup hy hy2 fun z hz hz2 => by
        rcases mem_exch.mp hz with h | h
        · exact h
        · exact absurd (h ▸ ht) hz2
      omega
    · have hall : ∀ y ∈ D, y ∈ b2 ∨ y = x := fun y hy => Classical.byContradiction fun z => q ⟨y, hy, fun a => z (.inl a), fun a => z (.inr a)⟩
      obtain ⟨t, ht, htD, hE⟩ := s.exc D hD x hxD b2 h2 hx2
      have aE : Asc n (exch b2 t x) := exch_asc a2 hx2 (aD.2 x hxD)
      have e : D = exch b2 t x := asc_full aD aE (by rw [exch_len a2.nodup ht]; exact s.eqs _ hD _ h2) fun y hy => by
        rcases hall y hy with h | h
        · exact mem_exch.mpr (.inl ⟨h, fun z => htD (z ▸ hy)⟩)
        · exact mem_exch.mpr (.inr h)
      exact htD (hC t ht (e ▸ hD))
/-- both sides of an exchange -/
theorem sym_exc {n : Int} {ls : List (List Int)} (s : Smooth n ls) {b1 b2 : List Int} {x : Int} (h1 : b1 ∈ ls) (h2 : b2 ∈ ls) (hx1 : x ∈ b1) (hx2 : ¬ x ∈ b2) : ∃ t ∈ b2, ¬ t ∈ b1 ∧ exch b1 x t ∈ ls ∧ exch b2 t x ∈ ls := by
  have aux : ∀ (k : Nat) {D : List Int}, dif D b1 ≤ k → D ∈ ls → ¬ x ∈ D → (∀ t ∈ b2, exch b2 t x ∈ ls → t ∈ D) → ∃ t ∈ b2, ¬ t ∈ b1 ∧ exch b1 x t ∈ ls ∧ exch b2 t x ∈ ls := by
    intro k
    induction k with
    | zero =>
      intro D hk hD hxD hC
      obtain ⟨t, ht, ht1, hE⟩ := s.exc b1 h1 x hx1 D hD hxD
      have : t ∈ D.filter fun y => !decide (y ∈ b1) := List.mem_filter.mpr ⟨ht, by simpa using ht1⟩
      have := List.length_pos_of_mem this
      unfold dif at hk
      omega
    | succ k ih =>
      intro D hk hD hxD hC
      by_cases q : ∃ y ∈ D, ¬ y ∈ b1 ∧ ¬ (y ∈ b2 ∧ exch b2 y x ∈ ls)
      · obtain ⟨y, hy, hy1, hyC⟩ := q
        obtain ⟨t, ht, htD, hE⟩ := s.exc D hD y hy b1 h1 hy1
        have aE := s.good.asc _ hE
        have hC' : ∀ c ∈ b2, exch b2 c x ∈ ls → c ∈ exch D y t := fun c hc he => mem_exch.mpr (.inl ⟨hC c hc he, fun e => hyC (e ▸ ⟨hc, he⟩)⟩)
        by_cases htx : t = x
        · exact (no_all s h2 hx2 _ (Nat.le_refl _) hE (mem_exch.mpr (.inr htx.symm)) hC').elim
        · refine ih (D := exch D y t) ?_ hE (fun z => ?_) hC'
          · have := dif_lt (l := D) (k := exch D y t) (o := b1) (y := y) aE.nodup hy hy1 fun z hz hz2 => by
              rcases mem_exch.mp hz with h | h
              · exact h
              · exact absurd (h ▸ ht) hz2
            omega
          · rcases mem_exch.mp z with h | h
            · exact hxD h.1
            · exact htx h.symm
      · obtain ⟨t, ht, ht1, hE⟩ := s.exc b1 h1 x hx1 D hD hxD
        have hc : t ∈ b2 ∧ exch b2 t x ∈ ls := Classical.byContradiction fun z => q ⟨t, ht, ht1, z⟩
        exact ⟨t, hc.1, ht1, hE, hc.2⟩
  exact aux _ (D := b2) (Nat.le_refl _) h2 hx2 fun t ht _ => ht
theorem sum_perm {l k : List Int} (p : l.Perm k) (f : Int → Int) : (l.map f).sum = (k.map f).sum := by
  induction p with
  | nil => rfl
  | cons x p ih => rw [List.map_cons, List.map_cons, List.sum_cons, List.sum_cons, ih]
  | swap x y l => simp only [List.map_cons, List.sum_cons]; omega
  | trans p q ih1 ih2 => exact ih1.trans ih2
theorem sum_out {l : List Int} {x : Int} (f : Int → Int) (nd : l.Nodup) (h : x ∈ l) : ((l.filter fun y => !(y == x)).map f).sum + f x = (l.map f).sum := by
  induction l with
  | nil => cases h
  | cons y l ih =>
    obtain ⟨h1, h2⟩ := List.nodup_cons.mp nd
    by_cases e : y = x
    · subst e
      have : l.filter (fun z => !(z == y)) = l := List.filter_eq_self.mpr fun z hz => by
        have : ¬ z = y := fun q => h1 (q ▸ hz)
        simpa using this
      rw [List.filter_cons_of_neg (by simp), this, List.map_cons, List.sum_cons]
      omega
    · rw [List.filter_cons_of_pos (by simpa using e), List.map_cons, List.map_cons, List.sum_cons, List.sum_cons]
      have := ih h2 (by rcases List.mem_cons.mp h with q | q; exact absurd q.symm e; exact q)
      omega
theorem sum_exch {l : List Int} {x t : Int} (f : Int → Int) (nd : l.Nodup) (h : x ∈ l) : ((exch l x t).map f).sum = (l.map f).sum - f x + f t := by
  have p : (exch l x t).Perm (l.filter (fun y => !(y == x)) ++ [t]) := (sortD_ints _).2
  rw [sum_perm p f, List.map_append, List.sum_append, List.map_singleton, List.sum_singleton]
  have := sum_out f nd h
  omega
/-- no better single exchange: nothing better at all -/
theorem loc_opt {n : Int} {ls : List (List Int)} (s : Smooth n ls) (f : Int → Int) {l : List Int} (hl : l ∈ ls) (h : ∀ x ∈ l, ∀ t, ¬ t ∈ l → exch l x t ∈ ls → f x ≤ f t) : ∀ {o : List Int}, o ∈ ls → (l.map f).sum ≤ (o.map f).sum := by
  have al := s.good.asc _ hl
  have aux : ∀ (k : Nat) {o : List Int}, dif l o ≤ k → o ∈ ls → (l.map f).sum ≤ (o.map f).sum := by
    intro k
    induction k with
    | zero =>
      intro o hk ho
      have : ∀ y ∈ l, y ∈ o := fun y hy => Classical.byContradiction fun z => by
        have : y ∈ l.filter fun y => !decide (y ∈ o) := List.mem_filter.mpr ⟨hy, by simpa using z⟩
        have := List.length_pos_of_mem this
        unfold dif at hk
        omega
      rw [asc_full al (s.good.asc _ ho) (s.eqs _ hl _ ho) this]
      exact Int.le_refl _
    | succ k ih =>
      intro o hk ho
      have ao := s.good.asc _ ho
      by_cases q : ∃ x ∈ l, ¬ x ∈ o
      · obtain ⟨x, hx, hxo⟩ := q
        obtain ⟨t, ht, htl, hE, hF⟩ := sym_exc s hl ho hx hxo
        have h1 := h x hx t htl hE
        have h2 : dif l (exch o t x) < dif l o := by
          unfold dif
          have hm : x ∈ l.filter fun y => !decide (y ∈ o) := List.mem_filter.mpr ⟨hx, by simpa using hxo⟩
          have hsub := nodup_len (xs := l.filter fun y => !decide (y ∈ exch o t x)) (ys := (l.filter fun y => !decide (y ∈ o)).erase x) (al.nodup.filter _) fun z hz => by
            obtain ⟨a, b⟩ := List.mem_filter.mp hz
            have b' : ¬ z ∈ exch o t x := by simpa using b
            have zx : ¬ z = x := fun e => b' (mem_exch.mpr (.inr e))
            have zt : ¬ z = t := fun e => htl (e ▸ a)
            have zo : ¬ z ∈ o := fun e => b' (mem_exch.mpr (.inl ⟨e, zt⟩))
            exact (List.mem_erase_of_ne zx).mpr (List.mem_filter.mpr ⟨a, by simpa using zo⟩)
          rw [List.length_erase_of_mem hm] at hsub
          have := List.length_pos_of_mem hm
          omega
        have h3 := ih (o := exch o t x) (by omega) hF
        rw [sum_exch f ao.nodup ht] at h3
        omega
      · have : ∀ y ∈ l, y ∈ o := fun y hy => Classical.byContradiction fun z => q ⟨y, hy, z⟩
        rw [asc_full al ao (s.eqs _ hl _ ho) this]
        exact Int.le_refl _
  intro o ho
  exact aux _ (Nat.le_refl _) ho
end LW
set_option Elab.async false
set_option linter.all false
set_option maxRecDepth 100000
set_option maxHeartbeats 1000000
namespace LW
open PySem PySem.Spec PyProof.Rows L2 PD
/-- one exchange of a lot -/
def Ed (ls : List (List Int)) (l : List Int) (a b : Int) : Prop := a ∈ l ∧ ¬ b ∈ l ∧ exch l a b ∈ ls
section
variable {n : Int} {ls : List (List Int)} {X : List Int} {a b x y : Int}
theorem lot_eq (s : Smooth n ls) {P Q : List Int} (hP : Asc n P) (hQ : Q ∈ ls) (h : ∀ z, z ∈ P ↔ z ∈ Q) : P ∈ ls := by
  rw [asc_ext hP.1 (s.good.asc Q hQ).1 h]; exact hQ
theorem Ed.rng (s : Smooth n ls) (h : Ed ls X a b) : 0 ≤ b ∧ b < n := (s.good.asc _ h.2.2).2 b (mem_exch.mpr (.inr rfl))
/-- an exchange is still there behind another one -/
theorem ed_keep (s : Smooth n ls) (hX : X ∈ ls) (hab : Ed ls X a b) (hxy : Ed ls X x y) (nxb : ¬ Ed ls X x b) (xa : ¬ x = a) (yb : ¬ y = b) : Ed ls (exch X a b) x y := by
  obtain ⟨ha, hb, hQ⟩ := id hab
  obtain ⟨hx, hy, hP⟩ := id hxy
  have aX := s.good.asc X hX
  have yr := hxy.rng s
  have br := hab.rng s
  have xQ : x ∈ exch X a b := mem_exch.mpr (.inl ⟨hx, xa⟩)
  have yQ : ¬ y ∈ exch X a b := fun m => by
    rcases mem_exch.mp m with ⟨m, _⟩ | m
    · exact hy m
    · exact yb m
  refine ⟨xQ, yQ, ?_⟩
  have xP : ¬ x ∈ exch X x y := fun m => by
    rcases mem_exch.mp m with ⟨_, m⟩ | m
    · exact m rfl
    · exact hy (m ▸ hx)
  obtain ⟨t, tP, tQ, tl⟩ := s.exc _ hQ x xQ _ hP xP
  rcases mem_exch.mp tP with ⟨tX, tx⟩ | rfl
  · have ta : t = a := by
      by_cases e : t = a
      · exact e
      · exact absurd (mem_exch.mpr (.inl ⟨tX, e⟩)) tQ
    subst ta
    refine absurd ⟨hx, hb, ?_⟩ nxb
    refine lot_eq s (exch_asc aX hb br) tl fun z => ?_
    rw [mem_exch, mem_exch, mem_exch]
    constructor
    · rintro (⟨z1, z2⟩ | rfl)
      · by_cases e : z = t
        · exact .inr e
        · exact .inl ⟨.inl ⟨z1, e⟩, z2⟩
      · exact .inl ⟨.inr rfl, fun e => hb (e ▸ hx)⟩
    · rintro (⟨⟨z1, z2⟩ | rfl, z3⟩ | rfl)
      · exact .inl ⟨z1, z3⟩
      · exact .inr rfl
      · exact .inl ⟨ha, fun e => xa e.symm⟩
  · exact tl
/-- no exchange comes that was not there -/
theorem ed_none (s : Smooth n ls) (hX : X ∈ ls) (hab : Ed ls X a b) (nxy : ¬ Ed ls X x y) (nxb : ¬ Ed ls X x b) (xb : ¬ x = b) (xy : ¬ x = y) : ¬ Ed ls (exch X a b) x y := by
  rintro ⟨hx', hy', hR⟩
  obtain ⟨ha, hb, hQ⟩ := id hab
  have aX := s.good.asc X hX
  have br := hab.rng s
  have hx : x ∈ X ∧ ¬ x = a := by
    rcases mem_exch.mp hx' with h | h
    · exact h
    · exact absurd h xb
  by_cases ya : y = a
  · subst ya
    refine nxb ⟨hx.1, hb, lot_eq s (exch_asc aX hb br) hR fun z => ?_⟩
    rw [mem_exch, mem_exch, mem_exch]
    constructor
    · rintro (⟨z1, z2⟩ | rfl)
      · by_cases e : z = y
        · exact .inr e
        · exact .inl ⟨.inl ⟨z1, e⟩, z2⟩
      · exact .inl ⟨.inr rfl, fun e => xb e.symm⟩
    · rintro (⟨⟨z1, z2⟩ | rfl, z3⟩ | rfl)
      · exact .inl ⟨z1, z3⟩
      · exact .inr rfl
      · exact .inl ⟨ha, fun e => xy e.symm⟩
  · have hy : ¬ y ∈ X := fun m => hy' (mem_exch.mpr (.inl ⟨m, ya⟩))
    have xR : ¬ x ∈ exch (exch X a b) x y := fun m => by
      rcases mem_exch.mp m with ⟨_, m⟩ | m
      · exact m rfl
      · exact xy m
    obtain ⟨t, tR, tX, tl⟩ := s.exc _ hX x hx.1 _ hR xR
    rcases mem_exch.mp tR with ⟨t1, _⟩ | rfl
    · rcases mem_exch.mp t1 with ⟨t1, _⟩ | rfl
      · exact tX t1
      · exact nxb ⟨hx.1, tX, tl⟩
    · exact nxy ⟨hx.1, tX, tl⟩
end
section
variable {n : Int} {ps : List Pl} {ch : List (List Int)}
def EdC (ps : List Pl) (ch : List (List Int)) (i a b : Int) : Prop := 0 ≤ i ∧ i < (ps.length : Int) ∧ Ed (plx ps i).ls (ixr ch i) a b
/-- the exchanges of a chain, from its end: each pair is a taker and the thing that it gives -/
def applyC : List (Int × Int) → Int → List (List Int) → List (List Int)
  | [], _, ch => ch
  | (i, a) :: r, b, ch => applyC r a (withL ch i (exch (ixr ch i) a b))
/-- the last thing -/
def headC : List (Int × Int) → Int → Int
  | [], b => b
  | (_, a) :: r, _ => headC r a
def Pth (ps : List Pl) (ch : List (List Int)) : Int → List (Int × Int) → Prop
  | _, [] => True
  | b, (i, a) :: r => EdC ps ch i a b ∧ (∀ q ∈ r, ∀ k, ¬ EdC ps ch k q.2 b) ∧ Pth ps ch a r
theorem pth_step (hs : ∀ p ∈ ps, Smooth n p.ls) (c : Chs ps ch) {i a b : Int} (he : EdC ps ch i a b) : ∀ (r : List (Int × Int)) (y : Int), (∀ q ∈ r, ∀ k, ¬ EdC ps ch k q.2 b) → (∀ q ∈ r, ¬ q.2 = b ∧ ¬ q.2 = a) → ¬ y = b → (∀ q ∈ r, ¬ q.2 = y) → (r.map (·.2)).Nodup → Pth ps ch y r → Pth ps (withL ch i (exch (ixr ch i) a b)) y r
  | [], _, _, _, _, _, _, _ => trivial
  | (k, x) :: r, y, nb, ne, yb, ny, nd, ⟨h1, h2, h3⟩ => by
    obtain ⟨i0, i1, hab⟩ := id he
    have il : i < (ch.length : Int) := by rw [c.len]; exact i1
    have sm := hs _ (plx_mem i0 i1)
    have hX := c.mem i i0 i1
    have at_ : ∀ j, 0 ≤ j → ixr (withL ch i (exch (ixr ch i) a b)) j = if j = i then exch (ixr ch i) a b else ixr ch j := fun j hj => with_at i0 il hj
    obtain ⟨xb, xa⟩ := ne _ List.mem_cons_self
    have xy := ny _ List.mem_cons_self
    have nxb : ∀ k, ¬ EdC ps ch k x b := nb _ List.mem_cons_self
    refine ⟨?_, fun q hq k2 hk2 => ?_, ?_⟩
    · obtain ⟨k0, k1, hxy⟩ := h1
      refine ⟨k0, k1, ?_⟩
      rw [at_ k k0]
      by_cases e : k = i
      · rw [if_pos e]
        subst e
        exact ed_keep sm hX hab hxy (fun z => nxb k ⟨k0, k1, z⟩) xa yb
      · rw [if_neg e]; exact hxy
    · obtain ⟨k0, k1, hh⟩ := hk2
      rw [at_ k2 k0] at hh
      by_cases e : k2 = i
      · rw [if_pos e] at hh
        subst e
        exact ed_none sm hX hab (fun z => h2 q hq k2 ⟨k0, k1, z⟩) (fun z => nb q (List.mem_cons_of_mem _ hq) k2 ⟨k0, k1, z⟩) (ne q (List.mem_cons_of_mem _ hq)).1 (ny q (List.mem_cons_of_mem _ hq)) hh
      · rw [if_neg e] at hh
        exact h2 q hq k2 ⟨k0, k1, hh⟩
    · rw [List.map_cons, List.nodup_cons] at nd
      exact pth_step hs c he r x (fun q hq => nb q (List.mem_cons_of_mem _ hq)) (fun q hq => ne q (List.mem_cons_of_mem _ hq)) xb (fun q hq e => nd.1 (e ▸ List.mem_map.mpr ⟨q, hq, rfl⟩)) nd.2 h3
theorem load_exch (hg : Game n ps) (c : Chs ps ch) {i a b : Int} (he : EdC ps ch i a b) (z : Int) : load (withL ch i (exch (ixr ch i) a b)) z = load ch z - (if z = a then 1 else 0) + (if z = b then 1 else 0) := by
  obtain ⟨i0, i1, ha, hb, hl⟩ := he
  have c' := Chs.with c i0 i1 hl
  have e := wl_with (l := exch (ixr ch i) a b) c i0 i1 z
  rw [hg.one _ (plx_mem i0 i1)] at e
  rw [← load_wl hg c, ← load_wl hg c'] at e
  by_cases za : z = a
  · subst za
    have zb : ¬ z = b := fun e => hb (e ▸ ha)
    rw [if_pos ha, if_neg (fun m => by rcases mem_exch.mp m with ⟨_, m⟩ | m; exact m rfl; exact zb m)] at e
    rw [if_pos rfl, if_neg zb]
    omega
  · by_cases zb : z = b
    · subst zb
      rw [if_neg hb, if_pos (mem_exch.mpr (.inr rfl))] at e
      rw [if_neg za, if_pos rfl]
      omega
    · rw [if_neg za, if_neg zb]
      by_cases zx : z ∈ ixr ch i
      · rw [if_pos zx, if_pos (mem_exch.mpr (.inl ⟨zx, za⟩))] at e
        omega
      · rw [if_neg zx, if_neg (fun m => by rcases mem_exch.mp m with ⟨m, _⟩ | m; exact zx m; exact zb m)] at e
        omega
/-- all exchanges of a chain -/
theorem applyC_ok (hg : Game n ps) (hs : ∀ p ∈ ps, Smooth n p.ls) : ∀ (r : List (Int × Int)) (b : Int) (ch : List (List Int)), Chs ps ch → (b :: r.map (·.2)).Nodup → Pth ps ch b r →
    Chs ps (applyC r b ch) ∧ ∀ z, load (applyC r b ch) z = load ch z - (if z = headC r b then 1 else 0) + (if z = b then 1 else 0)
  | [], b, ch, c, _, _ => ⟨c, fun z => by show load ch z = _ - (if z = b then 1 else 0) + _; omega⟩
  | (i, a) :: r, b, ch, c, nd, ⟨h1, h2, h3⟩ => by
    rw [List.map_cons, List.nodup_cons, List.mem_cons, not_or] at nd
    obtain ⟨⟨ba, br⟩, nd2⟩ := nd
    have nd2 : (a :: r.map (·.2)).Nodup := nd2
    obtain ⟨ar, nd3⟩ := List.nodup_cons.mp nd2
    have c' := Chs.with c h1.1 h1.2.1 h1.2.2.2.2
    have p' := pth_step hs c h1 r a h2 (fun q hq => ⟨fun e => br (e ▸ List.mem_map.mpr ⟨q, hq, rfl⟩), fun e => ar (e ▸ List.mem_map.mpr ⟨q, hq, rfl⟩)⟩) (fun e => ba e.symm) (fun q hq e => ar (e ▸ List.mem_map.mpr ⟨q, hq, rfl⟩)) nd3 h3
    obtain ⟨g1, g2⟩ := applyC_ok hg hs r a _ c' nd2 p'
    refine ⟨g1, fun z => ?_⟩
    show load (applyC r a (withL ch i (exch (ixr ch i) a b))) z = load ch z - (if z = headC r a then 1 else 0) + _
    rw [g2 z, load_exch hg c h1 z]
    omega
/-- what such a change of the loads does to the crowd sum -/
theorem crowd_move {C : List (List Int)} {f g : Int → Int} {s e : Int} (s0 : 0 ≤ s ∧ s < n) (e0 : 0 ≤ e ∧ e < n) (ne : ¬ s = e) (fs : 1 ≤ f s) (fe : 0 ≤ f e) (ls : f s ≤ ((ixr C s).length : Int)) (le : f e < ((ixr C e).length : Int)) (h : ∀ z, g z = f z - (if z = s then 1 else 0) + (if z = e then 1 else 0)) :
    crowd n C g = crowd n C f - cost C s (f s) + cost C e (f e + 1) := by
  have key : ∀ z, upTo C z (g z) = upTo C z (f z) + (if z = s then - cost C s (f s) else 0) + (if z = e then cost C e (f e + 1) else 0) := fun z => by
    rw [h z]
    by_cases h1 : z = s
    · subst h1
      rw [if_pos rfl, if_pos rfl, if_neg ne, if_neg ne]
      have := upTo_succ (C := C) (x := z) (m := f z - 1) (by omega) (by omega)
      rw [show f z - 1 + 1 = f z by omega] at this
      rw [show f z - 1 + 0 = f z - 1 by omega]
      omega
    · by_cases h2 : z = e
      · subst h2
        rw [if_neg h1, if_neg h1, if_pos rfl, if_pos rfl]
        have := upTo_succ (C := C) (x := z) (m := f z) fe le
        rw [show f z - 0 + 1 = f z + 1 by omega]
        omega
      · rw [if_neg h1, if_neg h1, if_neg h2, if_neg h2]
        rw [show f z - 0 + 0 = f z by omega]
        omega
  unfold crowd
  rw [sum_congr fun z _ => key z]
  have e1 : ((rangeI 0 n).map fun z => upTo C z (f z) + (if z = s then - cost C s (f s) else 0) + (if z = e then cost C e (f e + 1) else 0)).sum = ((rangeI 0 n).map fun z => upTo C z (f z)).sum + ((rangeI 0 n).map fun z => if z = s then - cost C s (f s) else 0).sum + ((rangeI 0 n).map fun z => if z = e then cost C e (f e + 1) else 0).sum := by
    rw [sum_add, sum_add]
  have one : ∀ (w v : Int), 0 ≤ w ∧ w < n → ((rangeI 0 n).map fun z => if z = w then v else 0).sum = v := fun w v hw => by
    have a : Asc n [w] := ⟨List.pairwise_singleton .., fun x hx => by rw [List.mem_singleton.mp hx]; exact hw⟩
    have := sum_on a (fun _ => v)
    simpa using this
  rw [e1, one s _ s0, one e _ e0]
  omega
end
end LW
set_option Elab.async false
set_option linter.all false
set_option maxRecDepth 100000
set_option maxHeartbeats 1000000
namespace LW
open PySem PySem.Spec PyProof.Rows L2 PD
abbrev Stp := List (Int × Option (Int × Int))
def keyS (S : Stp) : List Int := S.map (·.1)
def bstep (a : Int) (q : Stp × List Int) (p : Int × Int) : Stp × List Int := if p.2 ∈ keyS q.1 then q else (q.1 ++ [(p.2, some (p.1, a))], q.2 ++ [p.2])
def blay1 (E : Int → List (Int × Int)) (q : Stp × List Int) (a : Int) : Stp × List Int := (E a).foldl (bstep a) q
structure Lay (E : Int → List (Int × Int)) (s : Int) (S : Stp) (F : List Int) (dep : Int → Nat) (d : Nat) (dn : Int → Prop) : Prop where
  nd : (keyS S).Nodup
  has : (s, none) ∈ S
  back : ∀ b v, (b, v) ∈ S → (b = s ∧ v = none ∧ dep b = 0) ∨ ∃ i a, v = some (i, a) ∧ a ∈ keyS S ∧ (i, b) ∈ E a ∧ dep b = dep a + 1
  le : ∀ b ∈ keyS S, dep b ≤ d + 1
  fr : ∀ b, b ∈ F ↔ b ∈ keyS S ∧ dep b = d + 1
  full : ∀ a ∈ keyS S, dep a < d ∨ (dep a = d ∧ dn a) → ∀ p ∈ E a, p.2 ∈ keyS S ∧ dep p.2 ≤ dep a + 1
section
variable {E : Int → List (Int × Int)} {s : Int} {S : Stp} {F : List Int} {dep : Int → Nat} {d : Nat} {dn : Int → Prop}
theorem keyS_snoc {b : Int} {v : Option (Int × Int)} : keyS (S ++ [(b, v)]) = keyS S ++ [b] := by unfold keyS; rw [List.map_append]; rfl
theorem lay_step (L : Lay E s S F dep d dn) {a : Int} {p : Int × Int} (ha : a ∈ keyS S) (da : dep a = d) (hp : p ∈ E a) :
    ∃ dep', Lay E s (bstep a (S, F) p).1 (bstep a (S, F) p).2 dep' d dn ∧ (∀ x ∈ keyS S, dep' x = dep x) ∧ (∀ x ∈ keyS S, x ∈ keyS (bstep a (S, F) p).1) ∧ p.2 ∈ keyS (bstep a (S, F) p).1 ∧ dep' p.2 ≤ d + 1 := by
  unfold bstep
  by_cases h : p.2 ∈ keyS S
  · rw [if_pos h]
    exact ⟨dep, L, fun _ _ => rfl, fun _ h => h, h, L.le _ h⟩
  · rw [if_neg h]
    have ne : ∀ x ∈ keyS S, ¬ x = p.2 := fun x hx e => h (e ▸ hx)
    have old : ∀ x ∈ keyS S, (if x = p.2 then d + 1 else dep x) = dep x := fun x hx => by rw [if_neg (ne x hx)]
    refine ⟨fun x => if x = p.2 then d + 1 else dep x, ⟨?_, ?_, ?_, ?_, ?_, ?_⟩, old, fun x hx => ?_, ?_, ?_⟩
    · rw [keyS_snoc]
      exact List.nodup_append.mpr ⟨L.nd, by simp, fun x hx y hy => by rw [List.mem_singleton.mp hy]; exact ne x hx⟩
    · exact List.mem_append_left _ L.has
    · intro b v hv
      rcases List.mem_append.mp hv with hv | hv
      · have hb : b ∈ keyS S := List.mem_map.mpr ⟨_, hv, rfl⟩
        rcases L.back b v hv with ⟨h1, h2, h3⟩ | ⟨i, c, h1, h2, h3, h4⟩
        · exact .inl ⟨h1, h2, by rw [old b hb]; exact h3⟩
        · exact .inr ⟨i, c, h1, by rw [keyS_snoc]; exact List.mem_append_left _ h2, h3, by rw [old b hb, old c h2]; exact h4⟩
      · have e := List.mem_singleton.mp hv
        cases e
        refine .inr ⟨p.1, a, rfl, by rw [keyS_snoc]; exact List.mem_append_left _ ha, hp, ?_⟩
        rw [if_pos rfl, old a ha, da]
    · intro b hb
      rw [keyS_snoc] at hb
      rcases List.mem_append.mp hb with hb | hb
      · rw [old b hb]; exact L.le b hb
      · rw [List.mem_singleton.mp hb, if_pos rfl]; exact Nat.le_refl _
    · intro b
      rw [keyS_snoc, List.mem_append, List.mem_append, L.fr b, List.mem_singleton]
      constructor
      · rintro (⟨h1, h2⟩ | rfl)
        · exact ⟨.inl h1, by rw [old b h1]; exact h2⟩
        · exact ⟨.inr rfl, if_pos rfl⟩
      · rintro ⟨h1 | rfl, h2⟩
        · rw [old b h1] at h2; exact .inl ⟨h1, h2⟩
        · exact .inr rfl
    · intro c hc hd q hq
      rw [keyS_snoc] at hc
      rcases List.mem_append.mp hc with hc | hc
      · rw [old c hc] at hd ⊢
        obtain ⟨h1, h2⟩ := L.full c hc hd q hq
        exact ⟨by rw [keyS_snoc]; exact List.mem_append_left _ h1, by rw [old _ h1]; exact h2⟩
      · rw [List.mem_singleton.mp hc, if_pos rfl] at hd
        rcases hd with hd | ⟨hd, _⟩ <;> omega
    · rw [keyS_snoc]; exact List.mem_append_left _ hx
    · rw [keyS_snoc]; exact List.mem_append_right _ (List.mem_singleton.mpr rfl)
    · show (if p.2 = p.2 then d + 1 else dep p.2) ≤ d + 1
      rw [if_pos rfl]; exact Nat.le_refl _
theorem lay_fold (a : Int) : ∀ (ps : List (Int × Int)) {S : Stp} {F : List Int} {dep : Int → Nat}, Lay E s S F dep d dn → a ∈ keyS S → dep a = d → (∀ p ∈ ps, p ∈ E a) →
    ∃ dep', Lay E s (ps.foldl (bstep a) (S, F)).1 (ps.foldl (bstep a) (S, F)).2 dep' d dn ∧ (∀ x ∈ keyS S, dep' x = dep x) ∧ (∀ x ∈ keyS S, x ∈ keyS (ps.foldl (bstep a) (S, F)).1) ∧ ∀ p ∈ ps, p.2 ∈ keyS (ps.foldl (bstep a) (S, F)).1 ∧ dep' p.2 ≤ d + 1
  | [], S, F, dep, L, _, _, _ => ⟨dep, L, fun _ _ => rfl, fun _ h => h, fun _ h => nomatch h⟩
  | p :: ps, S, F, dep, L, ha, da, hp => by
    obtain ⟨dep1, L1, o1, k1, m1, e1⟩ := lay_step L ha da (hp p List.mem_cons_self)
    obtain ⟨dep2, L2, o2, k2, m2⟩ := lay_fold a ps L1 (k1 a ha) (by rw [o1 a ha]; exact da) fun q hq => hp q (List.mem_cons_of_mem _ hq)
    refine ⟨dep2, L2, fun x hx => (o2 x (k1 x hx)).trans (o1 x hx), fun x hx => k2 x (k1 x hx), fun q hq => ?_⟩
    rcases List.mem_cons.mp hq with rfl | hq
    · exact ⟨k2 _ m1, by rw [o2 _ m1]; exact e1⟩
    · exact m2 q hq
theorem lay_layer : ∀ (R : List Int) {S : Stp} {F : List Int} {dep : Int → Nat} {dn : Int → Prop}, Lay E s S F dep d dn → (∀ a ∈ R, a ∈ keyS S ∧ dep a = d) →
    ∃ dep', Lay E s (R.foldl (blay1 E) (S, F)).1 (R.foldl (blay1 E) (S, F)).2 dep' d (fun a => dn a ∨ a ∈ R) ∧ (∀ x ∈ keyS S, dep' x = dep x) ∧ ∀ x ∈ keyS S, x ∈ keyS (R.foldl (blay1 E) (S, F)).1
  | [], S, F, dep, dn, L, _ => ⟨dep, ⟨L.nd, L.has, L.back, L.le, L.fr, fun a ha hd => L.full a ha (by rcases hd with hd | ⟨h1, h2 | h2⟩; exact .inl hd; exact .inr ⟨h1, h2⟩; cases h2)⟩, fun _ _ => rfl, fun _ h => h⟩
  | a :: R, S, F, dep, dn, L, h => by
    obtain ⟨ha, da⟩ := h a List.mem_cons_self
    obtain ⟨dep1, L1, o1, k1, m1⟩ := lay_fold a (E a) L ha da fun _ h => h
    have L1' : Lay E s ((E a).foldl (bstep a) (S, F)).1 ((E a).foldl (bstep a) (S, F)).2 dep1 d (fun x => dn x ∨ x = a) := ⟨L1.nd, L1.has, L1.back, L1.le, L1.fr, fun x hx hd q hq => by
      by_cases e : x = a
      · subst e
        obtain ⟨h1, h2⟩ := m1 q hq
        exact ⟨h1, by rw [o1 x ha, da]; exact h2⟩
      · refine L1.full x hx ?_ q hq
        rcases hd with hd | ⟨h1, h2 | h2⟩
        · exact .inl hd
        · exact .inr ⟨h1, h2⟩
        · exact absurd h2 e⟩
    obtain ⟨dep2, L2, o2, k2⟩ := lay_layer R L1' fun x hx => ⟨k1 x (h x (List.mem_cons_of_mem _ hx)).1, by rw [o1 x (h x (List.mem_cons_of_mem _ hx)).1]; exact (h x (List.mem_cons_of_mem _ hx)).2⟩
    refine ⟨dep2, ?_, fun x hx => (o2 x (k1 x hx)).trans (o1 x hx), fun x hx => k2 x (k1 x hx)⟩
    exact ⟨L2.nd, L2.has, L2.back, L2.le, L2.fr, fun x hx hd q hq => L2.full x hx (by
      rcases hd with hd | ⟨h1, h2 | h2⟩
      · exact .inl hd
      · exact .inr ⟨h1, .inl (.inl h2)⟩
      · rcases List.mem_cons.mp h2 with h2 | h2
        · exact .inr ⟨h1, .inl (.inr h2)⟩
        · exact .inr ⟨h1, .inr h2⟩) q hq⟩
/-- one layer further -/
theorem lay_next {R : List Int} (L : Lay E s S F dep d dn) (all : ∀ a ∈ keyS S, dep a = d → dn a) : Lay E s S [] dep (d + 1) (fun _ => False) where
  nd := L.nd
  has := L.has
  back := L.back
  le := fun b hb => Nat.le_succ_of_le (L.le b hb)
  fr := fun b => ⟨(fun h => nomatch h), fun ⟨h1, h2⟩ => by have := L.le b h1; omega⟩
  full := fun a ha hd q hq => L.full a ha (by
    rcases hd with hd | ⟨_, h⟩
    · by_cases e : dep a = d
      · exact .inr ⟨e, all a ha e⟩
      · exact .inl (by omega)
    · exact h.elim) q hq
theorem lay_start : Lay E s [(s, none)] [] (fun _ => 0) 0 (fun _ => False) where
  nd := by simp [keyS]
  has := List.mem_singleton.mpr rfl
  back := fun b v h => by cases List.mem_singleton.mp h; exact .inl ⟨rfl, rfl, rfl⟩
  le := fun _ _ => Nat.zero_le _
  fr := fun b => ⟨fun h => (nomatch h), fun ⟨_, h⟩ => (by cases h)⟩
  full := fun a ha hd => by
    rcases hd with hd | ⟨_, hd⟩
    · exact absurd hd (by show ¬ (0 < 0); omega)
    · exact hd.elim
/-- what the search tells -/
structure Chn (E : Int → List (Int × Int)) (s : Int) (S : Stp) (dep : Int → Nat) : Prop where
  nd : (keyS S).Nodup
  has : (s, none) ∈ S
  back : ∀ b v, (b, v) ∈ S → (b = s ∧ v = none ∧ dep b = 0) ∨ ∃ i a, v = some (i, a) ∧ a ∈ keyS S ∧ (i, b) ∈ E a ∧ dep b = dep a + 1
  full : ∀ a ∈ keyS S, ∀ p ∈ E a, p.2 ∈ keyS S ∧ dep p.2 ≤ dep a + 1
theorem lay_end (L : Lay E s S [] dep d dn) (all : ∀ a ∈ keyS S, dep a = d → dn a) : Chn E s S dep := ⟨L.nd, L.has, L.back, fun a ha => L.full a ha (by
  have h1 := L.le a ha
  have h2 : ¬ dep a = d + 1 := fun e => nomatch (L.fr a).mpr ⟨ha, e⟩
  by_cases e : dep a = d
  · exact .inr ⟨e, all a ha e⟩
  · exact .inl (by omega))⟩
/-- the way back -/
inductive Bk (S : Stp) : Int → List (Int × Int) → Prop
  | stop {b : Int} : (b, none) ∈ S → Bk S b []
  | step {b i a : Int} {r : List (Int × Int)} : (b, some (i, a)) ∈ S → Bk S a r → Bk S b ((i, a) :: r)
theorem chn_bk {ps : List Pl} {ch : List (List Int)} (hE : ∀ a i b, (i, b) ∈ E a ↔ EdC ps ch i a b) (K : Chn E s S dep) : ∀ (m : Nat) (b : Int), b ∈ keyS S → dep b = m →
    ∃ r, Bk S b r ∧ headC r b = s ∧ r.length = m ∧ (∀ q ∈ r, q.2 ∈ keyS S ∧ dep q.2 < m) ∧ (b :: r.map (·.2)).Nodup ∧ Pth ps ch b r
  | 0, b, hb, hd => by
    obtain ⟨⟨b', v⟩, hv, rfl⟩ := List.mem_map.mp hb
    rcases K.back b' v hv with ⟨h1, h2, h3⟩ | ⟨i, a, h1, h2, h3, h4⟩
    · subst h1 h2
      exact ⟨[], .stop hv, rfl, rfl, (fun _ h => nomatch h), by simp, trivial⟩
    · have hd : dep b' = 0 := hd
      omega
  | m + 1, b, hb, hd => by
    obtain ⟨⟨b', v⟩, hv, rfl⟩ := List.mem_map.mp hb
    have hd : dep b' = m + 1 := hd
    rcases K.back b' v hv with ⟨h1, h2, h3⟩ | ⟨i, a, h1, h2, h3, h4⟩
    · omega
    · subst h1
      have da : dep a = m := by omega
      obtain ⟨r, g1, g2, g3, g4, g5, g6⟩ := chn_bk hE K m a h2 da
      have low : ∀ q ∈ r, dep q.2 < m := fun q hq => (g4 q hq).2
      refine ⟨(i, a) :: r, .step hv g1, g2, by rw [List.length_cons, g3], fun q hq => ?_, ?_, (hE a i b').mp h3, fun q hq k hk => ?_, g6⟩
      · rcases List.mem_cons.mp hq with rfl | hq
        · exact ⟨h2, by show dep a < m + 1; omega⟩
        · exact ⟨(g4 q hq).1, Nat.lt_succ_of_lt (low q hq)⟩
      · refine List.nodup_cons.mpr ⟨fun hm => ?_, g5⟩
        rcases List.mem_cons.mp hm with e | hm
        · exact absurd (hd.symm.trans ((congrArg dep (show b' = a from e)).trans da)) (by omega)
        · obtain ⟨q, hq, e⟩ := List.mem_map.mp hm
          have := low q hq
          rw [show q.2 = b' from e] at this
          omega
      · have := (K.full q.2 (g4 q hq).1 (k, b') ((hE q.2 k b').mpr hk)).2
        have h5 := low q hq
        have this : dep b' ≤ dep q.2 + 1 := this
        omega
end
end LW
set_option Elab.async false
set_option linter.all false
set_option maxRecDepth 100000
set_option maxHeartbeats 1000000
namespace LW
open PySem PySem.Spec PyProof.Rows L2 PD
section
variable {n : Int} {ps : List Pl} {ch : List (List Int)} {C : List (List Int)}
structure Fits (n : Int) (ps : List Pl) (C : List (List Int)) (ch : List (List Int)) (P : Int → Int) : Prop where
  lo : ∀ t, 0 ≤ t → t < n → 1 ≤ load ch t → cost C t (load ch t) ≤ P t
  hi : ∀ t, 0 ≤ t → t < n → load ch t < (ps.length : Int) → P t ≤ cost C t (load ch t + 1)
  cheap : ∀ i, 0 ≤ i → i < (ps.length : Int) → ∀ o ∈ (plx ps i).ls, ((ixr ch i).map P).sum ≤ (o.map P).sum
theorem upTo_up {x : Int} (hr : (ixr C x).Pairwise (· ≤ ·)) {p : Int} : ∀ (k : Nat) (f : Int), 0 ≤ f → f + k ≤ ((ixr C x).length : Int) → (0 < k → p ≤ cost C x (f + 1)) → upTo C x f + p * k ≤ upTo C x (f + k)
  | 0, f, _, _, _ => by simp
  | k + 1, f, h0, h1, h2 => by
    have e := upTo_succ (C := C) (x := x) (m := f) h0 (by omega)
    have c1 := h2 (by omega)
    have ih := upTo_up hr k (f + 1) (by omega) (by omega) (p := p) (fun hk => by
      refine Int.le_trans c1 ?_
      unfold cost ixv
      have l1 : (f + 1 - 1).toNat < (ixr C x).length := by omega
      have l2 : (f + 1 + 1 - 1).toNat < (ixr C x).length := by omega
      rw [List.getElem?_eq_getElem l1, List.getElem?_eq_getElem l2]
      exact List.pairwise_iff_getElem.mp hr _ _ l1 l2 (by omega))
    rw [show f + ((k + 1 : Nat) : Int) = f + 1 + k by omega, show ((k + 1 : Nat) : Int) = (k : Int) + 1 by omega, Int.mul_add, Int.mul_one]
    omega
theorem upTo_down {x : Int} (hr : (ixr C x).Pairwise (· ≤ ·)) {p : Int} : ∀ (k : Nat) (f : Int), 0 ≤ f - k → f ≤ ((ixr C x).length : Int) → (0 < k → cost C x f ≤ p) → upTo C x f - p * k ≤ upTo C x (f - k)
  | 0, f, _, _, _ => by simp
  | k + 1, f, h0, h1, h2 => by
    have e := upTo_succ (C := C) (x := x) (m := f - 1) (by omega) (by omega)
    rw [show f - 1 + 1 = f by omega] at e
    have c1 := h2 (by omega)
    have ih := upTo_down hr k (f - 1) (by omega) (by omega) (p := p) (fun hk => by
      refine Int.le_trans ?_ c1
      unfold cost ixv
      have l1 : (f - 1 - 1).toNat < (ixr C x).length := by omega
      have l2 : (f - 1).toNat < (ixr C x).length := by omega
      rw [List.getElem?_eq_getElem l1, List.getElem?_eq_getElem l2]
      exact List.pairwise_iff_getElem.mp hr _ _ l1 l2 (by omega))
    rw [show f - ((k + 1 : Nat) : Int) = f - 1 - k by omega, show ((k + 1 : Nat) : Int) = (k : Int) + 1 by omega, Int.mul_add, Int.mul_one]
    omega
theorem sum_le {l : List Int} {f g : Int → Int} (h : ∀ x ∈ l, f x ≤ g x) : (l.map f).sum ≤ (l.map g).sum := by
  induction l with
  | nil => exact Int.le_refl _
  | cons a l ih =>
    have := h a List.mem_cons_self
    have := ih fun x hx => h x (List.mem_cons_of_mem _ hx)
    simp only [List.map_cons, List.sum_cons]
    omega
theorem load_cons {l : List Int} {t : Int} : load (l :: ch) t = (if t ∈ l then 1 else 0) + load ch t := by
  unfold load
  by_cases h : t ∈ l
  · rw [List.filter_cons_of_pos (by simpa using h), if_pos h, List.length_cons]; omega
  · rw [List.filter_cons_of_neg (by simpa using h), if_neg h]; omega
theorem sum_loads (P : Int → Int) : ∀ {ch : List (List Int)}, (∀ l ∈ ch, Asc n l) → ((rangeI 0 n).map fun t => P t * load ch t).sum = (ch.map fun l => (l.map P).sum).sum
  | [], _ => by
    have : ∀ r : List Int, (r.map fun t => P t * load [] t).sum = 0 := fun r => by
      induction r with
      | nil => rfl
      | cons a r ih => rw [List.map_cons, List.sum_cons, ih]; simp [load]
    rw [this]; rfl
  | l :: ch, h => by
    have ih := sum_loads P (ch := ch) fun k hk => h k (List.mem_cons_of_mem _ hk)
    rw [List.map_cons, List.sum_cons, ← ih, ← sum_on (h l List.mem_cons_self) P, ← sum_add]
    refine sum_congr fun t _ => ?_
    rw [load_cons]
    by_cases c : t ∈ l
    · rw [if_pos c, if_pos c, Int.mul_add, Int.mul_one]
    · rw [if_neg c, if_neg c, Int.zero_add, Int.zero_add]
theorem lots_le {P : Int → Int} : ∀ {as bs : List (List Int)}, as.length = bs.length → (∀ i, 0 ≤ i → i < (as.length : Int) → ((ixr as i).map P).sum ≤ ((ixr bs i).map P).sum) → (as.map fun l => (l.map P).sum).sum ≤ (bs.map fun l => (l.map P).sum).sum
  | [], [], _, _ => Int.le_refl _
  | [], _ :: _, e, _ => by cases e
  | _ :: _, [], e, _ => by cases e
  | a :: as, b :: bs, e, h => by
    have h0 := h 0 (by omega) (by rw [List.length_cons]; omega)
    have ih := lots_le (P := P) (as := as) (bs := bs) (by simpa using e) fun i i0 i1 => by
      have := h (i + 1) (by omega) (by rw [List.length_cons]; omega)
      have s : ∀ (z : List Int) (zs : List (List Int)), ixr (z :: zs) (i + 1) = ixr zs i := fun z zs => by
        unfold ixr
        rw [show (i + 1).toNat = i.toNat + 1 by omega, List.getElem?_cons_succ]
      rwa [s, s] at this
    have z : ∀ (z : List Int) (zs : List (List Int)), ixr (z :: zs) 0 = z := fun z zs => rfl
    rw [z, z] at h0
    simp only [List.map_cons, List.sum_cons]
    omega
/-- prices that fit: no choice has a lesser crowd sum -/
theorem fits_least (A : Same n ps C) (hp : ps ≠ []) {P : Int → Int} (c : Chs ps ch) (F : Fits n ps C ch P) {dh : List (List Int)} (d : Chs ps dh) : crowd n C (load ch) ≤ crowd n C (load dh) := by
  have G := A.toGame
  have p1 : (0 : Int) < ps.length := by have := List.length_pos_iff.mpr hp; omega
  obtain ⟨hC, room⟩ := A.room1 (i := 0) (by omega) p1
  have up : ∀ t, 0 ≤ t → t < n → (ixr C t).Pairwise (· ≤ ·) := fun t t0 t1 => by
    have m := plx_mem (ps := ps) (i := 0) (by omega) p1
    have := G.up _ m
    rw [A.same _ m] at this
    exact this _ (ixr_mem t0 (by omega))
  have key : ∀ t ∈ rangeI 0 n, upTo C t (load ch t) + P t * (load dh t - load ch t) ≤ upTo C t (load dh t) := fun t ht => by
    obtain ⟨t0, t1⟩ := mem_rangeI.mp ht
    have rm := room t t0 t1
    have a := load_le (ch := ch) (x := t)
    have b := load_le (ch := dh) (x := t)
    rw [c.len] at a
    rw [d.len] at b
    by_cases h : load ch t ≤ load dh t
    · have := upTo_up (up t t0 t1) (p := P t) (load dh t - load ch t).toNat (load ch t) a.1 (by omega) (fun hk => F.hi t t0 t1 (by omega))
      rw [show ((load dh t - load ch t).toNat : Int) = load dh t - load ch t by omega, show load ch t + (load dh t - load ch t) = load dh t by omega] at this
      exact this
    · have := upTo_down (up t t0 t1) (p := P t) (load ch t - load dh t).toNat (load ch t) (by omega) (by omega) (fun hk => F.lo t t0 t1 (by omega))
      rw [show ((load ch t - load dh t).toNat : Int) = load ch t - load dh t by omega, show load ch t - (load ch t - load dh t) = load dh t by omega] at this
      have e : P t * (load dh t - load ch t) = - (P t * (load ch t - load dh t)) := by rw [← Int.mul_neg]; congr 1; omega
      rw [e]
      omega
  have s1 := sum_le key
  rw [sum_add] at s1
  have s2 : ((rangeI 0 n).map fun t => P t * (load dh t - load ch t)).sum = ((rangeI 0 n).map fun t => P t * load dh t).sum - ((rangeI 0 n).map fun t => P t * load ch t).sum := by
    have := sum_add (l := rangeI 0 n) (fun t => P t * (load dh t - load ch t)) (fun t => P t * load ch t)
    have e : ∀ t ∈ rangeI 0 n, P t * (load dh t - load ch t) + P t * load ch t = P t * load dh t := fun t _ => by rw [← Int.mul_add]; congr 1; omega
    rw [sum_congr e] at this
    omega
  rw [s2, sum_loads P (c.asc G.toPlay), sum_loads P (d.asc G.toPlay)] at s1
  have s3 := lots_le (P := P) (as := ch) (bs := dh) (by rw [c.len, d.len]) fun i i0 i1 => F.cheap i i0 (by rw [← c.len]; exact i1) _ (d.mem i i0 (by rw [← c.len]; exact i1))
  unfold crowd
  omega
end
end LW
set_option Elab.async false
set_option linter.all false
set_option maxRecDepth 100000
set_option maxHeartbeats 1000000
namespace LW
open PySem PySem.Spec PyProof.Rows L2 PD
/-- the greatest, or what is told for none -/
def maxD0 (d : Int) : List Int → Int
  | [] => d
  | a :: r => r.foldl max a
theorem foldl_max_ge : ∀ (r : List Int) (a : Int), a ≤ r.foldl max a ∧ ∀ x ∈ r, x ≤ r.foldl max a
  | [], a => ⟨Int.le_refl _, fun _ h => nomatch h⟩
  | b :: r, a => by
    obtain ⟨h1, h2⟩ := foldl_max_ge r (max a b)
    rw [List.foldl_cons]
    refine ⟨by omega, fun x hx => ?_⟩
    rcases List.mem_cons.mp hx with rfl | hx
    · omega
    · exact h2 x hx
theorem foldl_max_mem : ∀ (r : List Int) (a : Int), r.foldl max a = a ∨ r.foldl max a ∈ r
  | [], a => .inl rfl
  | b :: r, a => by
    rw [List.foldl_cons]
    rcases foldl_max_mem r (max a b) with h | h
    · by_cases c : a ≤ b
      · exact .inr (by rw [h, show max a b = b by omega]; exact List.mem_cons_self)
      · exact .inl (by rw [h]; omega)
    · exact .inr (List.mem_cons_of_mem _ h)
theorem maxD0_ge {d : Int} {l : List Int} {x : Int} (h : x ∈ l) : x ≤ maxD0 d l := by
  cases l with
  | nil => cases h
  | cons a r =>
    obtain ⟨h1, h2⟩ := foldl_max_ge r a
    rcases List.mem_cons.mp h with rfl | h
    · exact h1
    · exact h2 x h
theorem maxD0_mem {d : Int} {l : List Int} (h : l ≠ []) : maxD0 d l ∈ l := by
  cases l with
  | nil => exact absurd rfl h
  | cons a r =>
    rcases foldl_max_mem r a with e | e
    · show r.foldl max a ∈ _; rw [e]; exact List.mem_cons_self
    · exact List.mem_cons_of_mem _ e
def priL (C ch : List (List Int)) (ss : List Int) (K : Int → Stp) (t : Int) : List Int := (ss.filter fun s => decide (t ∈ keyS (K s))).map fun s => cost C s (load ch s)
def pri (C ch : List (List Int)) (ss : List Int) (K : Int → Stp) (t : Int) : Int := maxD0 (cost C t 1) (priL C ch ss K t)
def Opt (C ch : List (List Int)) (ss : List Int) (K : Int → Stp) : Prop := ∀ s ∈ ss, ∀ t ∈ keyS (K s), ¬ t = s → cost C s (load ch s) ≤ cost C t (load ch t + 1)
theorem load_pos {ch : List (List Int)} {t : Int} : 1 ≤ load ch t ↔ ∃ l ∈ ch, t ∈ l := by
  unfold load
  constructor
  · intro h
    have hl : 0 < (ch.filter fun l => decide (t ∈ l)).length := by omega
    obtain ⟨l, hl⟩ := List.exists_mem_of_length_pos hl
    exact ⟨l, (List.mem_filter.mp hl).1, of_decide_eq_true (List.mem_filter.mp hl).2⟩
  · rintro ⟨l, hl, ht⟩
    have := List.length_pos_of_mem (List.mem_filter.mpr ⟨hl, decide_eq_true ht⟩ : l ∈ ch.filter fun l => decide (t ∈ l))
    omega
theorem ixr_in {ps : List Pl} {ch : List (List Int)} (c : Chs ps ch) {i : Int} (i0 : 0 ≤ i) (i1 : i < (ps.length : Int)) : ixr ch i ∈ ch := by
  have h : i.toNat < ch.length := by rw [c.len]; omega
  unfold ixr
  rw [List.getElem?_eq_getElem h]
  exact List.getElem_mem h
section
variable {n : Int} {ps : List Pl} {ch : List (List Int)} {C : List (List Int)} {E : Int → List (Int × Int)} {ss : List Int} {K : Int → Stp} {dep : Int → Int → Nat}
theorem fits_of_opt (A : Same n ps C) (hp : ps ≠ []) (hs : ∀ p ∈ ps, Smooth n p.ls) (c : Chs ps ch) (hE : ∀ a i b, (i, b) ∈ E a ↔ EdC ps ch i a b) (hss : ∀ s, s ∈ ss ↔ ∃ l ∈ ch, s ∈ l) (hK : ∀ s ∈ ss, Chn E s (K s) (dep s)) (o : Opt C ch ss K) : Fits n ps C ch (pri C ch ss K) := by
  have p1 : (0 : Int) < ps.length := by have := List.length_pos_iff.mpr hp; omega
  obtain ⟨hC, room⟩ := A.room1 (i := 0) (by omega) p1
  have self : ∀ s ∈ ss, s ∈ keyS (K s) := fun s h => List.mem_map.mpr ⟨_, (hK s h).has, rfl⟩
  have inL : ∀ {s t : Int}, s ∈ ss → t ∈ keyS (K s) → cost C s (load ch s) ∈ priL C ch ss K t := fun {s t} h1 h2 => List.mem_map.mpr ⟨s, List.mem_filter.mpr ⟨h1, decide_eq_true h2⟩, rfl⟩
  have outL : ∀ {t v : Int}, v ∈ priL C ch ss K t → ∃ s ∈ ss, t ∈ keyS (K s) ∧ cost C s (load ch s) = v := fun {t v} h => by
    obtain ⟨s, h1, h2⟩ := List.mem_map.mp h
    obtain ⟨h3, h4⟩ := List.mem_filter.mp h1
    exact ⟨s, h3, of_decide_eq_true h4, h2⟩
  refine ⟨fun t t0 t1 hl => ?_, fun t t0 t1 hl => ?_, fun i i0 i1 q hq => ?_⟩
  · have hs := (hss t).mpr (load_pos.mp hl)
    exact maxD0_ge (inL hs (self t hs))
  · by_cases e : priL C ch ss K t = []
    · have l0 : load ch t = 0 := by
        have a := (load_le (ch := ch) (x := t)).1
        by_cases h : 1 ≤ load ch t
        · have hs := (hss t).mpr (load_pos.mp h)
          have := inL hs (self t hs)
          rw [e] at this
          cases this
        · omega
      unfold pri
      rw [e, l0]
      exact Int.le_refl _
    · obtain ⟨s, h1, h2, h3⟩ := outL (maxD0_mem (d := cost C t 1) e)
      show maxD0 _ _ ≤ _
      rw [← h3]
      by_cases c2 : t = s
      · subst c2
        have a := load_pos.mpr ((hss t).mp h1)
        have rm := room t t0 t1
        have m := plx_mem (ps := ps) (i := 0) (by omega) p1
        have up := A.toGame.up _ m
        rw [A.same _ m] at up
        have up := up _ (ixr_mem t0 (by omega))
        unfold cost ixv
        have l1 : (load ch t - 1).toNat < (ixr C t).length := by omega
        have l2 : (load ch t + 1 - 1).toNat < (ixr C t).length := by omega
        rw [List.getElem?_eq_getElem l1, List.getElem?_eq_getElem l2]
        exact List.pairwise_iff_getElem.mp up _ _ l1 l2 (by omega)
      · exact o s h1 t h2 c2
  · refine loc_opt (hs _ (plx_mem i0 i1)) (pri C ch ss K) (c.mem i i0 i1) (fun x hx t ht hl => ?_) hq
    have xs : x ∈ ss := (hss x).mpr ⟨_, ixr_in c i0 i1, hx⟩
    have ne : priL C ch ss K x ≠ [] := fun e => by
      have := inL xs (self x xs)
      rw [e] at this
      cases this
    obtain ⟨s, h1, h2, h3⟩ := outL (maxD0_mem (d := cost C x 1) ne)
    show maxD0 _ _ ≤ _
    rw [← h3]
    have he : (i, t) ∈ E x := (hE x i t).mpr ⟨i0, i1, hx, ht, hl⟩
    exact maxD0_ge (inL h1 ((hK s h1).full x h2 _ he).1)
end
end LW
set_option Elab.async false
set_option linter.all false
set_option maxRecDepth 100000
set_option maxHeartbeats 1000000
namespace PD
open PySem PySem.Spec PyProof.Rows L2
def seqOO (o : OutO) (h : SO) : OutO := match o with
  | .nx ρ S => h ρ S
  | o => o
@[simp] theorem seqOO_nx (ρ : RhoO) (S : Store) (h : SO) : seqOO (.nx ρ S) h = h ρ S := rfl
@[simp] theorem seqOO_rt (d : Vl) (S : Store) (h : SO) : seqOO (.rt d S) h = .rt d S := rfl
@[simp] theorem seqOO_exc (e : Ex) (ρ : RhoO) (S : Store) (h : SO) : seqOO (.exc e ρ S) h = .exc e ρ S := rfl
@[simp] theorem ev_sSeq (g h : SO) (ρ : RhoO) (S : Store) : sSeq g h ρ S = seqOO (g ρ S) h := by unfold sSeq seqOO; cases g ρ S <;> rfl
def ooO (x : Option RhoO) (S : Store) : OutO := match x with
  | some ρ => .nx ρ S
  | none => .bad
@[simp] theorem ooO_some (ρ : RhoO) (S : Store) : ooO (some ρ) S = .nx ρ S := rfl
@[simp] theorem ev_sSet (f : EO) (t : Tg) (ρ : RhoO) (S : Store) : sSet f t ρ S = oRO (f ρ S) ρ fun x S1 => ooO (t.setO x ρ) S1 := by
  unfold sSet
  congr 1
@[simp] theorem oRO_exc {α : Type} (e : Ex) (S : Store) (ρ : RhoO) (k : α → Store → OutO) : oRO (.exc e S) ρ k = .exc e ρ S := rfl
@[simp] theorem ev_sSkip (ρ : RhoO) (S : Store) : sSkip ρ S = .nx ρ S := rfl
@[simp] theorem ev_sRet (f : EO) (ρ : RhoO) (S : Store) : sRet f ρ S = oRO (f ρ S) ρ .rt := rfl
@[simp] theorem ev_sRetN (ρ : RhoO) (S : Store) : sRetN ρ S = .rt (.p .none) S := rfl
@[simp] theorem ev_sExpr (f : EO) (ρ : RhoO) (S : Store) : sExpr f ρ S = oRO (f ρ S) ρ fun _ S1 => .nx ρ S1 := rfl
@[simp] theorem ev_sIf (c : EOB) (g h : SO) (ρ : RhoO) (S : Store) : sIf c g h ρ S = oRO (c ρ S) ρ fun b S1 => if b = true then g ρ S1 else h ρ S1 := rfl
@[simp] theorem ev_sFor (fi : EOI) (t : Tg) (g : SO) (ρ : RhoO) (S : Store) : sFor fi t g ρ S = oRO (fi ρ S) ρ fun ds S1 => sForGo t g ds ρ S1 := rfl
def mskV (x : R PyData) (S : Store) : RO Vl := match x with
  | .ok d => .ok (.p d) S
  | .exc e => .exc e S
  | .bad => .bad
@[simp] theorem mskV_ok (d : PyData) (S : Store) : mskV (.ok d) S = .ok (.p d) S := rfl
@[simp] theorem mskV_exc (e : Ex) (S : Store) : mskV (.exc e) S = .exc e S := rfl
@[simp] theorem ev_oMask (f : Dn) (ρ : RhoO) (S : Store) : oMask f ρ S = mskV (f (maskR ρ)) S := by unfold oMask mskV; cases f (maskR ρ) <;> rfl
def mskI {α : Type} (x : R α) (S : Store) : RO α := match x with
  | .ok d => .ok d S
  | .exc e => .exc e S
  | .bad => .bad
@[simp] theorem mskI_ok {α : Type} (d : α) (S : Store) : mskI (.ok d) S = .ok d S := rfl
@[simp] theorem mskI_exc {α : Type} (e : Ex) (S : Store) : mskI (.exc e : R α) S = .exc e S := rfl
@[simp] theorem ev_oMaskI (f : DnL) (ρ : RhoO) (S : Store) : oMaskI f ρ S = mskI (f (maskR ρ)) S := by unfold oMaskI mskI; cases f (maskR ρ) <;> rfl
@[simp] theorem ev_oMaskB (f : DnB) (ρ : RhoO) (S : Store) : oMaskB f ρ S = mskI (f (maskR ρ)) S := by unfold oMaskB mskI; cases f (maskR ρ) <;> rfl
@[simp] theorem maskR_nil : maskR [] = [] := rfl
@[simp] theorem maskR_p (d : PyData) (ρ : RhoO) : maskR (some (.p d) :: ρ) = some (.d d) :: maskR ρ := rfl
@[simp] theorem maskR_rf (l : Nat) (ρ : RhoO) : maskR (some (.rf l) :: ρ) = none :: maskR ρ := rfl
@[simp] theorem maskR_tp (l : List Vl) (ρ : RhoO) : maskR (some (.tp l) :: ρ) = none :: maskR ρ := rfl
@[simp] theorem maskR_none (ρ : RhoO) : maskR (none :: ρ) = none :: maskR ρ := rfl
@[simp] theorem snapR_nil (S : Store) : snapR S [] = [] := rfl
@[simp] theorem snapR_p (S : Store) (d : PyData) (ρ : RhoO) : snapR S (some (.p d) :: ρ) = some (.d d) :: snapR S ρ := rfl
@[simp] theorem snapR_none (S : Store) (ρ : RhoO) : snapR S (none :: ρ) = none :: snapR S ρ := rfl
def varO (x : Option (Option Vl)) (S : Store) : RO Vl := match x with
  | some (some x) => .ok x S
  | _ => .bad
@[simp] theorem varO_some (x : Vl) (S : Store) : varO (some (some x)) S = .ok x S := rfl
@[simp] theorem ev_oVar (i : Nat) (ρ : RhoO) (S : Store) : oVar i ρ S = varO ρ[i]? S := by unfold oVar varO; rfl
def okO (x : Option Vl) (S : Store) : RO Vl := match x with
  | some y => .ok y S
  | none => .bad
@[simp] theorem okO_some (x : Vl) (S : Store) : okO (some x) S = .ok x S := rfl
@[simp] theorem ev_oFld (C : Addr) (f : Str) (g : EO) (ρ : RhoO) (S : Store) : oFld C f g ρ S = (g ρ S).bind fun x S1 => okO (fldV C f x S1) S1 := by
  unfold oFld okO
  congr 1
@[simp] theorem ev_oIxO (g h : EO) (ρ : RhoO) (S : Store) : oIxO g h ρ S = (g ρ S).bind fun x S1 => (h ρ S1).bind fun y S2 => okO (ixV x y S2) S2 := by
  unfold oIxO okO
  congr 1
@[simp] theorem ev_oNil (ρ : RhoO) (S : Store) : oNil ρ S = .ok [] S := rfl
@[simp] theorem ev_oCons (g : EO) (h : EOL) (ρ : RhoO) (S : Store) : oCons g h ρ S = (g ρ S).bind fun x S1 => (h ρ S1).bind fun xs S2 => .ok (x :: xs) S2 := rfl
@[simp] theorem ev_oArg (m : MO) (g : EOL) (ρ : RhoO) (S : Store) : oArg m g ρ S = (g ρ S).bind m := rfl
@[simp] theorem ev_oNewLL (fi : EOI) (ρ : RhoO) (S : Store) : oNewLL fi ρ S = (fi ρ S).bind fun ds S1 => .ok (.rf (S1.length + ds.length)) (S1 ++ List.replicate ds.length (.lst []) ++ [.lst ((List.range ds.length).map fun k => .rf (S1.length + k))]) := rfl
@[simp] theorem setO_nm (i : Nat) (x : Vl) (ρ : RhoO) : Tg.setO (.nm i) x ρ = some (ρ.set i (some x)) := by unfold Tg.setO; rfl
@[simp] theorem setO_tp (ts : List Tg) (ds : List PyData) (ρ : RhoO) : Tg.setO (.tp ts) (.p (.tuple ds)) ρ = Tg.setsO ts (ds.map .p) ρ := by rw [Tg.setO]
@[simp] theorem setsO_nil (ρ : RhoO) : Tg.setsO [] [] ρ = some ρ := by rw [Tg.setsO]
@[simp] theorem setsO_cons (t : Tg) (ts : List Tg) (x : Vl) (xs : List Vl) (ρ : RhoO) : Tg.setsO (t :: ts) (x :: xs) ρ = (Tg.setO t x ρ).bind fun ρ' => Tg.setsO ts xs ρ' := by rw [Tg.setsO]
/-- a loop by what holds between its turns -/
theorem sForGo_inv {α : Type} {t : Tg} {g : SO} (enc : α → PyData) (xs : List α) (Inv : List α → RhoO → Store → Prop)
    (turn : ∀ pre x post ρ S, xs = pre ++ x :: post → Inv pre ρ S → ∃ ρ1 ρ2 S2, t.setO (.p (enc x)) ρ = some ρ1 ∧ (g ρ1 S = .nx ρ2 S2 ∨ g ρ1 S = .ct ρ2 S2) ∧ Inv (pre ++ [x]) ρ2 S2) :
    ∀ (post pre : List α) (ρ : RhoO) (S : Store), xs = pre ++ post → Inv pre ρ S → ∃ ρ' S', sForGo t g (post.map enc) ρ S = .nx ρ' S' ∧ Inv xs ρ' S'
  | [], pre, ρ, S, e, h => ⟨ρ, S, rfl, by rw [e, List.append_nil]; exact h⟩
  | x :: post, pre, ρ, S, e, h => by
    obtain ⟨ρ1, ρ2, S2, e1, e2, h2⟩ := turn pre x post ρ S e h
    obtain ⟨ρ', S', e3, h3⟩ := sForGo_inv enc xs Inv turn post (pre ++ [x]) ρ2 S2 (by rw [e, List.append_assoc]; rfl) h2
    refine ⟨ρ', S', ?_, h3⟩
    rw [List.map_cons]
    unfold sForGo
    rw [e1]
    rcases e2 with e2 | e2
    · simp only [e2]; exact e3
    · simp only [e2]; exact e3
theorem mapO_map {α β γ : Type} {f : β → Option γ} {g : α → β} {h : α → γ} : ∀ {xs : List α}, (∀ x ∈ xs, f (g x) = some (h x)) → mapO f (xs.map g) = some (xs.map h)
  | [], _ => rfl
  | x :: xs, H => by
    rw [List.map_cons, mapO, H x List.mem_cons_self, mapO_map fun y hy => H y (List.mem_cons_of_mem _ hy)]
    rfl
theorem mapO_p {n : Nat} {S : Store} : ∀ ds : List PyData, mapO (snapV n S) (ds.map .p) = some ds
  | [] => rfl
  | d :: ds => by
    have e : snapV n S (.p d) = some d := by cases n <;> rfl
    rw [List.map_cons, mapO, e, mapO_p ds]
end PD
set_option Elab.async false
set_option linter.all false
set_option maxRecDepth 100000
set_option maxHeartbeats 4000000
set_option Elab.async false
set_option maxRecDepth 100000
set_option linter.all false
set_option maxHeartbeats 2000000
set_option Elab.async false
set_option linter.all false
set_option maxRecDepth 100000
set_option maxHeartbeats 4000000
set_option Elab.async false
set_option maxRecDepth 100000
set_option linter.all false
set_option maxHeartbeats 2000000
namespace LW
open PySem PySem.Spec PyProof.Rows L2 PD
def Bst (S : Int → Int → Prop) (key : Int → Int → Int) : Option (Int × Int) → Prop
  | none => ∀ x t, S x t → 0 ≤ key x t
  | some p => S p.1 p.2 ∧ key p.1 p.2 < 0 ∧ ∀ x t, S x t → key p.1 p.2 < key x t ∨ (key p.1 p.2 = key x t ∧ (p.1 < x ∨ (p.1 = x ∧ p.2 ≤ t)))
def gainB (key : Int → Int → Int) : Option (Int × Int) → Int
  | none => 0
  | some p => key p.1 p.2
theorem Bst.congr {S S' : Int → Int → Prop} {key : Int → Int → Int} {o : Option (Int × Int)} (h : Bst S key o) (e : ∀ x t, S x t ↔ S' x t) : Bst S' key o := by
  have : S = S' := funext fun x => funext fun t => propext (e x t)
  rw [← this]; exact h
theorem Bst.step {S S' : Int → Int → Prop} {key : Int → Int → Int} {o : Option (Int × Int)} {x t : Int} (h : Bst S key o) (hs : ∀ a b, S a b → a < x ∨ (a = x ∧ b ≤ t)) (e : ∀ a b, S' a b ↔ S a b ∨ (a = x ∧ b = t)) : Bst S' key (if key x t < gainB key o then some (x, t) else o) := by
  cases o with
  | none =>
    by_cases q : key x t < gainB key none
    · rw [if_pos q]
      have q : key x t < 0 := q
      refine ⟨(e x t).mpr (.inr ⟨rfl, rfl⟩), q, fun a b hab => ?_⟩
      rcases (e a b).mp hab with z | ⟨rfl, rfl⟩
      · exact .inl (by have := h a b z; show key x t < key a b; omega)
      · exact .inr ⟨rfl, .inr ⟨rfl, Int.le_refl _⟩⟩
    · rw [if_neg q]
      have q : ¬ key x t < 0 := q
      intro a b hab
      rcases (e a b).mp hab with z | ⟨rfl, rfl⟩
      · exact h a b z
      · omega
  | some p =>
    obtain ⟨h1, h2, h3⟩ := h
    by_cases q : key x t < gainB key (some p)
    · rw [if_pos q]
      have q : key x t < key p.1 p.2 := q
      refine ⟨(e x t).mpr (.inr ⟨rfl, rfl⟩), by show key x t < 0; omega, fun a b hab => ?_⟩
      rcases (e a b).mp hab with z | ⟨rfl, rfl⟩
      · refine .inl ?_
        show key x t < key a b
        rcases h3 a b z with y | y <;> omega
      · exact .inr ⟨rfl, .inr ⟨rfl, Int.le_refl _⟩⟩
    · rw [if_neg q]
      have q : ¬ key x t < key p.1 p.2 := q
      refine ⟨(e _ _).mpr (.inl h1), h2, fun a b hab => ?_⟩
      rcases (e a b).mp hab with z | ⟨rfl, rfl⟩
      · exact h3 a b z
      · by_cases y : key p.1 p.2 < key a b
        · exact .inl y
        · exact .inr ⟨by omega, hs _ _ h1⟩
theorem Bst.uniq {S : Int → Int → Prop} {key : Int → Int → Int} {o o' : Option (Int × Int)} (h : Bst S key o) (h' : Bst S key o') : o = o' := by
  cases o with
  | none =>
    cases o' with
    | none => rfl
    | some p => have := h p.1 p.2 h'.1; have := h'.2.1; omega
  | some p =>
    cases o' with
    | none => have := h' p.1 p.2 h.1; have := h.2.1; omega
    | some q =>
      obtain ⟨a1, a2, a3⟩ := h
      obtain ⟨b1, b2, b3⟩ := h'
      have c := a3 _ _ b1
      have d := b3 _ _ a1
      have : p.1 = q.1 ∧ p.2 = q.2 := by omega
      congr 1
      exact Prod.ext this.1 this.2
/-- one thing out, another in, such that it's a lot -/
def Cnd (n : Int) (ls : List (List Int)) (l : List Int) (x t : Int) : Prop := 0 ≤ t ∧ t < n ∧ ¬ t ∈ l ∧ exch l x t ∈ ls
theorem mem_part {n : Int} {ls : List (List Int)} {l : List Int} {x t : Int} : t ∈ part n ls l x ↔ Cnd n ls l x t := by
  unfold part Cnd
  rw [List.mem_filter, List.mem_filter, mem_rangeI]
  simp [and_assoc]
def minT (m : List Int) (rows : List (List Int)) : List Int := rows.foldl (fun a y => if HT.lexLt y a = true then y else a) m
theorem minD_tu (m : List Int) (rows : List (List Int)) : PySem.W.minD (tu m) (rows.map tu) = tu (minT m rows) := by
  unfold PySem.W.minD minT
  induction rows generalizing m with
  | nil => rfl
  | cons r rows ih =>
    rw [List.map_cons, List.foldl_cons, List.foldl_cons, ← ih, dataLt_tu]
    split <;> rfl
theorem minT_mem : ∀ (rows : List (List Int)) (m : List Int), minT m rows = m ∨ minT m rows ∈ rows
  | [], m => .inl rfl
  | r :: rows, m => by
    show minT (if HT.lexLt r m = true then r else m) rows = m ∨ minT (if HT.lexLt r m = true then r else m) rows ∈ r :: rows
    rcases minT_mem rows (if HT.lexLt r m = true then r else m) with h | h
    · rw [h]
      split
      · exact .inr List.mem_cons_self
      · exact .inl rfl
    · exact .inr (List.mem_cons_of_mem _ h)
theorem leT_refl (a : List Int) : leT a a = true := by
  have := leT_total a a
  rwa [Bool.or_self] at this
theorem minT_le : ∀ (rows : List (List Int)) (m : List Int), leT (minT m rows) m = true ∧ ∀ r ∈ rows, leT (minT m rows) r = true
  | [], m => ⟨leT_refl m, by simp⟩
  | r :: rows, m => by
    obtain ⟨h1, h2⟩ := minT_le rows (if HT.lexLt r m = true then r else m)
    have e : minT m (r :: rows) = minT (if HT.lexLt r m = true then r else m) rows := rfl
    rw [e]
    have both : leT (if HT.lexLt r m = true then r else m) m = true ∧ leT (if HT.lexLt r m = true then r else m) r = true := by
      by_cases q : HT.lexLt r m = true
      · rw [if_pos q]
        refine ⟨?_, leT_refl r⟩
        unfold leT
        rw [NtL.lex_asym r m q]; rfl
      · rw [if_neg q]
        refine ⟨leT_refl m, ?_⟩
        unfold leT
        simpa using q
    refine ⟨leT_trans _ _ _ h1 both.1, fun y hy => ?_⟩
    rcases List.mem_cons.mp hy with rfl | hy
    · exact leT_trans _ _ _ h1 both.2
    · exact h2 y hy
theorem le3 {a b c a' b' c' : Int} (h : leT [a, b, c] [a', b', c'] = true) : a < a' ∨ (a = a' ∧ (b < b' ∨ (b = b' ∧ c ≤ c'))) := by
  unfold leT at h
  rw [HT.lexLt_cons, HT.lexLt_cons, HT.lexLt_cons] at h
  by_cases e1 : a' = a
  · rw [if_pos e1] at h
    by_cases e2 : b' = b
    · rw [if_pos e2] at h
      by_cases e3 : c' = c
      · omega
      · rw [if_neg e3] at h
        have : ¬ c' < c := by simpa using h
        omega
    · rw [if_neg e2] at h
      have : ¬ b' < b := by simpa using h
      omega
  · rw [if_neg e1] at h
    have : ¬ a' < a := by simpa using h
    omega
end LW
set_option Elab.async false
set_option linter.all false
set_option maxRecDepth 100000
set_option maxHeartbeats 1000000
namespace LW
open PySem PySem.Spec PyProof.Rows L2 PD
def pV (q : Int × Int) : Vl := .p (tu [q.1, q.2])
def pD50 (q : Int × Int) : PyData := tu [q.1, q.2]
def refs50 (n : Int) : List Vl := (List.range n.toNat).map fun k => .rf k
def St50 (n : Int) (acc : Int → List (Int × Int)) : Store := ((rangeI 0 n).map fun a => Cell.lst ((acc a).map pV)) ++ [.lst (refs50 n)]
def xg (n : Int) (ps : List Pl) (ch : List (List Int)) (pre : List Int) (a : Int) : List (Int × Int) := pre.flatMap fun i => if a ∈ ixr ch i then (part n (plx ps i).ls (ixr ch i) a).map fun b => (i, b) else []
section
variable {n : Int} {ps : List Pl} {ch : List (List Int)}
theorem rng_len (n : Int) : (rangeI 0 n).length = n.toNat := by
  rw [rangeI_len]
  congr 1
  omega
theorem part_len {ls : List (List Int)} {l : List Int} {a : Int} : (part n ls l a).length ≤ n.toNat := by
  unfold part
  refine Nat.le_trans (List.length_filter_le _ _) (Nat.le_trans (List.length_filter_le _ _) ?_)
  rw [rng_len]
  exact Nat.le_refl _
theorem xg_len (pre : List Int) (a : Int) : (xg n ps ch pre a).length ≤ pre.length * n.toNat := by
  induction pre with
  | nil => simp [xg]
  | cons i pre ih =>
    have e : xg n ps ch (i :: pre) a = (if a ∈ ixr ch i then (part n (plx ps i).ls (ixr ch i) a).map fun b => (i, b) else []) ++ xg n ps ch pre a := by unfold xg; rw [List.flatMap_cons]
    rw [e, List.length_append, List.length_cons, Nat.succ_mul]
    have : (if a ∈ ixr ch i then (part n (plx ps i).ls (ixr ch i) a).map fun b => (i, b) else []).length ≤ n.toNat := by
      split
      · rw [List.length_map]; exact part_len
      · exact Nat.zero_le _
    omega
theorem xg_snoc (pre : List Int) (i a : Int) : xg n ps ch (pre ++ [i]) a = xg n ps ch pre a ++ (if a ∈ ixr ch i then (part n (plx ps i).ls (ixr ch i) a).map fun b => (i, b) else []) := by
  unfold xg
  rw [List.flatMap_append]
  simp
theorem mem_xg {pre : List Int} {a i b : Int} : (i, b) ∈ xg n ps ch pre a ↔ i ∈ pre ∧ a ∈ ixr ch i ∧ b ∈ part n (plx ps i).ls (ixr ch i) a := by
  unfold xg
  rw [List.mem_flatMap]
  constructor
  · rintro ⟨k, hk, hm⟩
    split at hm
    · rename_i ha
      obtain ⟨c, hc, e⟩ := List.mem_map.mp hm
      cases e
      exact ⟨hk, ha, hc⟩
    · cases hm
  · rintro ⟨hk, ha, hb⟩
    exact ⟨i, hk, by rw [if_pos ha]; exact List.mem_map.mpr ⟨b, hb, rfl⟩⟩
theorem st50_at {acc : Int → List (Int × Int)} {a : Int} (h0 : 0 ≤ a) (h1 : a < n) : (St50 n acc)[a.toNat]? = some (.lst ((acc a).map pV)) := by
  unfold St50
  have hl : a.toNat < ((rangeI 0 n).map fun a => Cell.lst ((acc a).map pV)).length := by rw [List.length_map, rng_len]; omega
  rw [List.getElem?_append_left hl, List.getElem?_map, rangeI_get (by omega)]
  show some (Cell.lst ((acc (0 + (a.toNat : Int))).map pV)) = _
  rw [show (0 : Int) + (a.toNat : Int) = a by omega]
theorem st50_top {acc : Int → List (Int × Int)} : (St50 n acc)[n.toNat]? = some (.lst (refs50 n)) := by
  unfold St50
  rw [List.getElem?_append_right (by rw [List.length_map, rng_len]; exact Nat.le_refl _), List.length_map, rng_len, Nat.sub_self]
  rfl
theorem st50_set {acc : Int → List (Int × Int)} {a : Int} {v : List (Int × Int)} (h0 : 0 ≤ a) (h1 : a < n) : (St50 n acc).set a.toNat (.lst (v.map pV)) = St50 n fun x => if x = a then v else acc x := by
  unfold St50
  have hl : a.toNat < ((rangeI 0 n).map fun a => Cell.lst ((acc a).map pV)).length := by rw [List.length_map, rng_len]; omega
  rw [List.set_append_left _ _ hl]
  congr 1
  apply List.ext_getElem?
  intro j
  by_cases e : a.toNat = j
  · subst e
    rw [List.getElem?_set_self hl, List.getElem?_map, rangeI_get (by omega)]
    show _ = some (Cell.lst ((if 0 + (a.toNat : Int) = a then v else _).map pV))
    rw [if_pos (by omega)]
  · rw [List.getElem?_set_ne e, List.getElem?_map, List.getElem?_map]
    by_cases hj : j < (n - 0).toNat
    · rw [rangeI_get hj]
      show some (Cell.lst ((acc (0 + (j : Int))).map pV)) = some (Cell.lst ((if 0 + (j : Int) = a then v else acc (0 + (j : Int))).map pV))
      rw [if_neg (by omega)]
    · rw [List.getElem?_eq_none (by rw [rng_len]; omega)]
      rfl
theorem ix_refs {a : Int} (h0 : 0 ≤ a) (h1 : a < n) : atI (refs50 n) a = some (.rf a.toNat) := by
  unfold atI refs50
  have : ixN ((List.range n.toNat).map fun k => Vl.rf k).length a = some a.toNat := by
    rw [List.length_map, List.length_range]
    exact ixN_ok h0 (by omega)
  rw [this]
  show ((List.range n.toNat).map fun k => Vl.rf k)[a.toNat]? = _
  rw [List.getElem?_map, List.getElem?_range (by omega)]
  rfl
end
end LW
set_option Elab.async false
set_option linter.all false
set_option maxRecDepth 100000
set_option maxHeartbeats 4000000
namespace LW
open PySem PySem.Spec PyProof.Rows L2 PD
theorem ixr_range (ch : List (List Int)) : (rangeI 0 ch.length).map (ixr ch) = ch := by
  apply List.ext_getElem?
  intro j
  rw [List.getElem?_map]
  by_cases h : j < ch.length
  · rw [rangeI_get (by omega), List.getElem?_eq_getElem h]
    show some (ixr ch (0 + (j : Int))) = _
    unfold ixr
    rw [show (0 + (j : Int)).toNat = j by omega, List.getElem?_eq_getElem h]
    rfl
  · rw [List.getElem?_eq_none (by rw [rangeI_len]; omega), List.getElem?_eq_none (by omega)]
    rfl
theorem enumF_map50 {α : Type} (e : α → PyData) (g : Int → α) (n : Int) : enumF 0 (((rangeI 0 n).map g).map e) = (rangeI 0 n).map fun x => PyData.tuple [.int x, e (g x)] := by
  have : ∀ (m : Nat) (k : Int), (n - k).toNat = m → enumF k (((rangeI k n).map g).map e) = (rangeI k n).map fun x => PyData.tuple [.int x, e (g x)] := by
    intro m
    induction m with
    | zero =>
      intro k hk
      rw [rangeI_nil (by omega)]; rfl
    | succ m ih =>
      intro k hk
      rw [rangeI_cons (by omega), List.map_cons, List.map_cons, List.map_cons]
      show _ :: enumF (k + 1) _ = _
      rw [ih (k + 1) (by omega)]
  exact this _ 0 rfl
theorem enum_ch (ch : List (List Int)) : enumF 0 (ch.map tu) = (rangeI 0 ch.length).map fun k => PyData.tuple [.int k, tu (ixr ch k)] := by
  have := enumF_map50 tu (ixr ch) ch.length
  rwa [ixr_range] at this
section
variable {n : Int} {ps : List Pl} {ch : List (List Int)}
def ro50 (n : Int) (ps : List Pl) (ch : List (List Int)) (a b c d e : Option Vl) : RhoO := [some (.p (gmD n ps)), some (.p (tt ch)), some (.rf n.toNat), a, b, c, d, e, none, none]
def acc50 (n : Int) (ps : List Pl) (ch : List (List Int)) (pre : List Int) (k : Int) (q : List Int) (a : Int) : List (Int × Int) := xg n ps ch pre a ++ if a ∈ q then (part n (plx ps k).ls (ixr ch k) a).map fun b => (k, b) else []
theorem v_exch_lot (G : Game n ps) (c : Chs ps ch) (hn : n ≤ 50) (hz : ps.length ≤ 100) {k : Int} (k0 : 0 ≤ k) (k1 : k < (ps.length : Int)) (pre : List Int) (hpre : pre.length ≤ 100) (e0 : Option Vl) :
    ∃ e, sForGo (.nm 7) (sExpr (oExt (oIxO (oVar 2) (oMask (dVar 7))) (oMask (dLc (dItems (dArg m_replacements (dCons (dVar 5) (dCons (dVar 6) (dCons (dVar 4) (dCons (dVar 7) dNil)))))) (.nm 9) dYes (dTup (dCons (dVar 3) (dCons (dVar 9) dNil))) [9])))) ((ixr ch k).map .int)
      (ro50 n ps ch (some (.p (.int k))) (some (.p (tu (ixr ch k)))) (some (.p (ofr n (plx ps k).ls))) (some (.p (.dict ((known (plx ps k).ls).map keyD)))) e0) (St50 n (xg n ps ch pre)) =
      .nx (ro50 n ps ch (some (.p (.int k))) (some (.p (tu (ixr ch k)))) (some (.p (ofr n (plx ps k).ls))) (some (.p (.dict ((known (plx ps k).ls).map keyD)))) e) (St50 n (xg n ps ch (pre ++ [k]))) := by
  have a := chs_asc G.toPlay c k0 k1
  have n0 := G.n0
  have al := a.len
  obtain ⟨ρ', S', h1, e, h2, h3⟩ := sForGo_inv (t := .nm 7) (g := sExpr (oExt (oIxO (oVar 2) (oMask (dVar 7))) (oMask (dLc (dItems (dArg m_replacements (dCons (dVar 5) (dCons (dVar 6) (dCons (dVar 4) (dCons (dVar 7) dNil)))))) (.nm 9) dYes (dTup (dCons (dVar 3) (dCons (dVar 9) dNil))) [9]))))
    PyData.int (ixr ch k) (fun q ρ S => ∃ e, ρ = ro50 n ps ch (some (.p (.int k))) (some (.p (tu (ixr ch k)))) (some (.p (ofr n (plx ps k).ls))) (some (.p (.dict ((known (plx ps k).ls).map keyD)))) e ∧ S = St50 n (acc50 n ps ch pre k q))
    (fun q x post ρ S hq ⟨e, hρ, hS⟩ => by
      subst hρ hS
      have hx : x ∈ ixr ch k := by rw [hq]; simp
      obtain ⟨x0, x1⟩ := a.2 x hx
      have hnx : ¬ x ∈ q := fun m => by
        have nd := a.nodup
        rw [hq, List.nodup_append] at nd
        exact nd.2.2 x m x List.mem_cons_self rfl
      refine ⟨_, ro50 n ps ch (some (.p (.int k))) (some (.p (tu (ixr ch k)))) (some (.p (ofr n (plx ps k).ls))) (some (.p (.dict ((known (plx ps k).ls).map keyD)))) (some (.p (.int x))), St50 n (acc50 n ps ch pre k (q ++ [x])), setO_nm _ _ _, .inl ?_, _, rfl, rfl⟩
      have er := v_repl n (plx ps k).ls (known (plx ps k).ls) (ixr ch k) x n0 (by omega) (by omega) (fun _ => mem_known)
      have lc : dLc (dItems (dArg m_replacements (dCons (dVar 5) (dCons (dVar 6) (dCons (dVar 4) (dCons (dVar 7) dNil)))))) (.nm 9) dYes (dTup (dCons (dVar 3) (dCons (dVar 9) dNil))) [9] (maskR (ro50 n ps ch (some (.p (.int k))) (some (.p (tu (ixr ch k)))) (some (.p (ofr n (plx ps k).ls))) (some (.p (.dict ((known (plx ps k).ls).map keyD)))) (some (.p (.int x))))) = .ok (.list ((part n (plx ps k).ls (ixr ch k) x).map fun b => PyData.tuple [.int k, .int b])) := by
        unfold ro50
        simp [-List.map_map, show ofr n (plx ps k).ls = PyData.tuple [.int n, tt (plx ps k).ls] from rfl, er]
        rw [List.map_map]
        rfl
      have ix : ixV (.rf n.toNat) (.p (.int x)) (St50 n (acc50 n ps ch pre k q)) = some (.rf x.toNat) := by
        show (match (St50 n (acc50 n ps ch pre k q))[n.toNat]? with | some (.lst xs) => atI xs x | _ => none) = _
        rw [st50_top]
        exact ix_refs x0 x1
      have lv : lstV (.rf x.toNat) (St50 n (acc50 n ps ch pre k q)) = some (x.toNat, (acc50 n ps ch pre k q x).map pV) := by
        show (match (St50 n (acc50 n ps ch pre k q))[x.toNat]? with | some (.lst xs) => some (x.toNat, xs) | _ => none) = _
        rw [st50_at x0 x1]
      have hset : (ro50 n ps ch (some (.p (.int k))) (some (.p (tu (ixr ch k)))) (some (.p (ofr n (plx ps k).ls))) (some (.p (.dict ((known (plx ps k).ls).map keyD)))) e).set 7 (some (.p (.int x))) = ro50 n ps ch (some (.p (.int k))) (some (.p (tu (ixr ch k)))) (some (.p (ofr n (plx ps k).ls))) (some (.p (.dict ((known (plx ps k).ls).map keyD)))) (some (.p (.int x))) := rfl
      rw [hset]
      have len : ((acc50 n ps ch pre k q x).map pV).length + ((part n (plx ps k).ls (ixr ch k) x).map fun b => PyData.tuple [.int k, .int b]).length ≤ sizeLine := by
        have l1 := xg_len (n := n) (ps := ps) (ch := ch) pre x
        have l2 := part_len (n := n) (ls := (plx ps k).ls) (l := ixr ch k) (a := x)
        unfold acc50
        rw [if_neg hnx, List.append_nil, List.length_map, List.length_map, sizeLine_eq]
        have : pre.length * n.toNat ≤ 100 * 50 := Nat.mul_le_mul hpre (by omega)
        omega
      rw [ev_sExpr]
      unfold oExt
      rw [ev_oIxO, ev_oVar]
      have g2 : (ro50 n ps ch (some (.p (.int k))) (some (.p (tu (ixr ch k)))) (some (.p (ofr n (plx ps k).ls))) (some (.p (.dict ((known (plx ps k).ls).map keyD)))) (some (.p (.int x))))[2]? = some (some (.rf n.toNat)) := rfl
      have g7 : (maskR (ro50 n ps ch (some (.p (.int k))) (some (.p (tu (ixr ch k)))) (some (.p (ofr n (plx ps k).ls))) (some (.p (.dict ((known (plx ps k).ls).map keyD)))) (some (.p (.int x)))))[7]? = some (some (.d (.int x))) := rfl
      rw [g2, varO_some, RO.bind_ok, ev_oMask, ev_var, g7, varR_d, mskV_ok, RO.bind_ok, ix, okO_some, RO.bind_ok, lv]
      dsimp only
      rw [ev_oMask, lc, mskV_ok, RO.bind_ok, lv]
      show oRO (if _ then _ else _) _ _ = _
      rw [if_pos (by rw [List.length_map] at len ⊢; rw [List.length_map] at len ⊢; exact (by simpa using len))]
      have e1 : ((acc50 n ps ch pre k q x).map pV) ++ (((part n (plx ps k).ls (ixr ch k) x).map fun b => PyData.tuple [.int k, .int b]).map Vl.p) = (acc50 n ps ch pre k (q ++ [x]) x).map pV := by
        unfold acc50
        rw [if_neg hnx, if_pos (by simp), List.append_nil, List.map_append, List.map_map, List.map_map]
        rfl
      rw [e1, st50_set x0 x1]
      show OutO.nx _ _ = OutO.nx _ _
      congr 1
      congr 1
      funext z
      by_cases hz : z = x
      · subst hz; rw [if_pos rfl]
      · rw [if_neg hz]
        unfold acc50
        congr 1
        by_cases hq2 : z ∈ q
        · rw [if_pos hq2, if_pos (by simp [hq2])]
        · rw [if_neg hq2, if_neg (by simp [hq2, hz])])
    (ixr ch k) [] _ _ rfl ⟨e0, rfl, rfl⟩
  subst h2 h3
  have z0 : acc50 n ps ch pre k [] = xg n ps ch pre := by
    funext z
    unfold acc50
    rw [if_neg (by simp), List.append_nil]
  have z1 : acc50 n ps ch pre k (ixr ch k) = xg n ps ch (pre ++ [k]) := by
    funext z
    rw [xg_snoc]
    rfl
  rw [z0, z1] at h1
  exact ⟨e, h1⟩
theorem v_exchanges (G : Game n ps) (c : Chs ps ch) (hp : ps ≠ []) (hn : n ≤ 50) (hz : ps.length ≤ 100) : m_exchanges_of [gmD n ps, tt ch] = .ok (.list ((rangeI 0 n).map fun a => .list ((xg n ps ch (rangeI 0 ps.length) a).map pD50))) := by
  have p1 : (0 : Int) < ps.length := by have := List.length_pos_iff.mpr hp; omega
  have n0 := G.n0
  have key : g_exchanges_of [some (.p (gmD n ps)), some (.p (tt ch)), none, none, none, none, none, none, none, none] [] = .rt (.rf n.toNat) (St50 n (xg n ps ch (rangeI 0 ps.length))) := by
    obtain ⟨ρ', S', h1, a1, a2, a3, a4, a5, h2, h3⟩ := sForGo_inv (t := .tp [(.nm 3), (.nm 4)]) (g := (sSeq (sSet (oMask (dTwo oIx (dTwo oIx (dVar 0) (dVar 3)) (dC (.int 0)))) (.nm 5)) (sSeq (sSet (oMask (dArg m_known_lots (dCons (dVar 5) dNil))) (.nm 6)) (sFor (oMaskI (dItems (dVar 4))) (.nm 7) (sExpr (oExt (oIxO (oVar 2) (oMask (dVar 7))) (oMask (dLc (dItems (dArg m_replacements (dCons (dVar 5) (dCons (dVar 6) (dCons (dVar 4) (dCons (dVar 7) dNil)))))) (.nm 9) dYes (dTup (dCons (dVar 3) (dCons (dVar 9) dNil))) [9]))))))))
      (fun k => PyData.tuple [.int k, tu (ixr ch k)]) (rangeI 0 ps.length) (fun pre ρ S => ∃ b1 b2 b3 b4 b5, ρ = ro50 n ps ch b1 b2 b3 b4 b5 ∧ S = St50 n (xg n ps ch pre))
      (fun pre k post ρ S hq ⟨b1, b2, b3, b4, b5, hρ, hS⟩ => by
        subst hρ hS
        have hk : k ∈ rangeI 0 ps.length := by rw [hq]; simp
        obtain ⟨k0, k1⟩ := mem_rangeI.mp hk
        have hpre : pre.length ≤ 100 := by
          have := congrArg List.length hq
          rw [rangeI_len, List.length_append] at this
          omega
        obtain ⟨e, he⟩ := v_exch_lot G c hn hz k0 k1 pre hpre b5
        refine ⟨ro50 n ps ch (some (.p (.int k))) (some (.p (tu (ixr ch k)))) b3 b4 b5, ro50 n ps ch (some (.p (.int k))) (some (.p (tu (ixr ch k)))) (some (.p (ofr n (plx ps k).ls))) (some (.p (.dict ((known (plx ps k).ls).map keyD)))) e, St50 n (xg n ps ch (pre ++ [k])), rfl, .inl ?_, (some (.p (.int k))), (some (.p (tu (ixr ch k)))), (some (.p (ofr n (plx ps k).ls))), (some (.p (.dict ((known (plx ps k).ls).map keyD)))), e, rfl, rfl⟩
        have i1 : oIx (gmD n ps) (.int k) = .ok (tkD n (plx ps k)) := ix_tk k0 k1
        have i2 : m_known_lots [ofr n (plx ps k).ls] = .ok (.dict ((known (plx ps k).ls).map keyD)) := v_known n (plx ps k).ls
        have r3 : ∀ b3 b4 b5, (maskR (ro50 n ps ch (some (.p (.int k))) (some (.p (tu (ixr ch k)))) b3 b4 b5))[0]? = some (some (.d (gmD n ps))) := fun _ _ _ => rfl
        have r4 : ∀ b3 b4 b5, (maskR (ro50 n ps ch (some (.p (.int k))) (some (.p (tu (ixr ch k)))) b3 b4 b5))[3]? = some (some (.d (.int k))) := fun _ _ _ => rfl
        have r5 : ∀ o b4 b5, (maskR (ro50 n ps ch (some (.p (.int k))) (some (.p (tu (ixr ch k)))) (some (.p o)) b4 b5))[5]? = some (some (.d o)) := fun _ _ _ => rfl
        have r6 : ∀ b3 b4 b5, (maskR (ro50 n ps ch (some (.p (.int k))) (some (.p (tu (ixr ch k)))) b3 b4 b5))[4]? = some (some (.d (tu (ixr ch k)))) := fun _ _ _ => rfl
        have s5 : ∀ x b3 b4 b5, (ro50 n ps ch (some (.p (.int k))) (some (.p (tu (ixr ch k)))) b3 b4 b5).set 5 x = ro50 n ps ch (some (.p (.int k))) (some (.p (tu (ixr ch k)))) x b4 b5 := fun _ _ _ _ => rfl
        have s6 : ∀ x b3 b4 b5, (ro50 n ps ch (some (.p (.int k))) (some (.p (tu (ixr ch k)))) b3 b4 b5).set 6 x = ro50 n ps ch (some (.p (.int k))) (some (.p (tu (ixr ch k)))) b3 x b5 := fun _ _ _ _ => rfl
        rw [ev_sSeq, ev_sSet, ev_oMask, ev_two, ev_two, ev_var, ev_var, ev_c, r3, r4, varR_d, varR_d, R.bind_ok, R.bind_ok, i1, R.bind_ok, R.bind_ok, tk_p0, mskV_ok, oRO_ok, setO_nm, ooO_some, s5, seqOO_nx]
        rw [ev_sSeq, ev_sSet, ev_oMask, ev_arg, ev_cons, ev_nil, ev_var, r5, varR_d, R.bind_ok, R.bind_ok, R.bind_ok, i2, mskV_ok, oRO_ok, setO_nm, ooO_some, s6, seqOO_nx]
        rw [ev_sFor, ev_oMaskI, ev_items, ev_var, r6, varR_d, R.bind_ok, items_tu, mskI_ok, oRO_ok]
        exact he) (rangeI 0 ps.length) [] (ro50 n ps ch none none none none none) (St50 n (xg n ps ch [])) rfl ⟨_, _, _, _, _, rfl, rfl⟩
    subst h2 h3
    unfold g_exchanges_of
    have i0 : oIx (gmD n ps) (.int 0) = .ok (tkD n (plx ps 0)) := ix_tk (by decide) p1
    have hlen : (rangeI 0 n).length = n.toNat := rng_len n
    have z0 : ([] : Store) ++ List.replicate (((rangeI 0 n).map PyData.int).length) (Cell.lst []) ++ [Cell.lst ((List.range (((rangeI 0 n).map PyData.int).length)).map fun k => Vl.rf (([] : Store).length + k))] = St50 n (xg n ps ch []) := by
      unfold St50 refs50
      rw [List.length_map, hlen, List.nil_append]
      congr 1
      · apply List.ext_getElem?
        intro j
        rw [List.getElem?_map]
        by_cases hj : j < n.toNat
        · rw [List.getElem?_replicate, if_pos hj, rangeI_get (by omega)]; rfl
        · rw [List.getElem?_replicate, if_neg hj, List.getElem?_eq_none (by rw [hlen]; omega)]; rfl
      · congr 2
        refine List.map_congr_left fun k _ => ?_
        rw [List.length_nil, Nat.zero_add]
    rw [ev_sSeq, ev_sSet, ev_oNewLL, ev_oMaskI]
    have hr : dRng1 (dCons (dTwo oIx (dTwo oIx (dTwo oIx (dVar 0) (dC (.int 0))) (dC (.int 0))) (dC (.int 0))) dNil) (maskR [some (.p (gmD n ps)), some (.p (tt ch)), none, none, none, none, none, none, none, none]) = .ok ((rangeI 0 n).map .int) := by
      simp [i0, tk_p0, of_p0, rngA1_ok (n := n) (by omega) (by omega), -List.map_map]
    rw [hr, mskI_ok, RO.bind_ok, z0, oRO_ok, setO_nm, ooO_some, seqOO_nx]
    have hz2 : ([] : Store).length + ((rangeI 0 n).map PyData.int).length = n.toNat := by rw [List.length_nil, List.length_map, hlen, Nat.zero_add]
    rw [hz2]
    have hs : ([some (Vl.p (gmD n ps)), some (.p (tt ch)), none, none, none, none, none, none, none, none] : RhoO).set 2 (some (.rf n.toNat)) = ro50 n ps ch none none none none none := rfl
    rw [hs, ev_sSeq, ev_sFor, ev_oMaskI]
    have he : dEnum (dCons (dVar 1) dNil) (maskR (ro50 n ps ch none none none none none)) = .ok ((rangeI 0 ps.length).map fun k => PyData.tuple [.int k, tu (ixr ch k)]) := by
      have := enum_ch ch
      rw [c.len] at this
      rw [← this]
      rfl
    rw [he, mskI_ok, oRO_ok, h1, seqOO_nx, ev_sRet, ev_oVar]
    rfl
  · show pureO (runO 10 2 g_exchanges_of) [gmD n ps, tt ch] = _
    unfold pureO runO
    show (match (if 2 = 2 then endO (g_exchanges_of [some (.p (gmD n ps)), some (.p (tt ch)), none, none, none, none, none, none, none, none] []) else .bad) with | .ok x S => (match snapV 6 S x with | some d => R.ok d | none => .bad) | .exc e _ => .exc e | .bad => .bad) = _
    rw [if_pos rfl, key]
    show (match snapV 6 (St50 n (xg n ps ch (rangeI 0 ps.length))) (.rf n.toNat) with | some d => R.ok d | none => .bad) = _
    have sn : snapV 6 (St50 n (xg n ps ch (rangeI 0 ps.length))) (.rf n.toNat) = some (.list ((rangeI 0 n).map fun a => .list ((xg n ps ch (rangeI 0 ps.length) a).map pD50))) := by
      unfold snapV
      rw [st50_top]
      dsimp only
      have : mapO (snapV 5 (St50 n (xg n ps ch (rangeI 0 ps.length)))) (refs50 n) = some ((List.range n.toNat).map fun (k : Nat) => PyData.list ((xg n ps ch (rangeI 0 ps.length) k).map pD50)) := by
        unfold refs50
        refine mapO_map fun k hk => ?_
        have hk := List.mem_range.mp hk
        unfold snapV
        have := st50_at (n := n) (acc := xg n ps ch (rangeI 0 ps.length)) (a := (k : Int)) (by omega) (by omega)
        rw [show ((k : Int)).toNat = k by omega] at this
        rw [this]
        dsimp only
        have e2 : (xg n ps ch (rangeI 0 ps.length) (k : Int)).map pV = ((xg n ps ch (rangeI 0 ps.length) (k : Int)).map pD50).map Vl.p := by rw [List.map_map]; rfl
        rw [e2, mapO_p]
      rw [this]
      dsimp only
      congr 2
      unfold rangeI
      rw [List.map_map, show (n - 0).toNat = n.toNat by omega]
      refine List.map_congr_left fun k _ => ?_
      show _ = PyData.list ((xg n ps ch _ (0 + (k : Int))).map pD50)
      rw [Int.zero_add]
    rw [sn]
end
end LW
set_option Elab.async false
set_option linter.all false
set_option maxRecDepth 100000
set_option maxHeartbeats 4000000
namespace LW
open PySem PySem.Spec PyProof.Rows L2 PD
theorem nodup_le50 {α : Type} [DecidableEq α] : ∀ {l k : List α}, l.Nodup → (∀ x ∈ l, x ∈ k) → l.length ≤ k.length
  | [], k, _, _ => Nat.zero_le _
  | a :: l, k, nd, h => by
    obtain ⟨n1, n2⟩ := List.nodup_cons.mp nd
    have ha := h a List.mem_cons_self
    have ih := nodup_le50 (k := k.erase a) n2 fun x hx => (List.mem_erase_of_ne (fun e => n1 (by rw [← e]; exact hx))).mpr (h x (List.mem_cons_of_mem _ hx))
    rw [List.length_erase_of_mem ha] at ih
    have := List.length_pos_of_mem ha
    rw [List.length_cons]
    omega
theorem while50 {fb : DnB} {g : Sn} (S : Nat → Rho → Prop) (hs : ∀ m ρ, S m ρ → (fb ρ = .ok true ∧ ∃ m' ρ', m' < m ∧ g ρ = .nx ρ' ∧ S m' ρ') ∨ fb ρ = .ok false) : ∀ (n m : Nat) (ρ : Rho), m < n → S m ρ → ∃ m' ρ', whGo fb g n ρ = .nx ρ' ∧ S m' ρ' ∧ fb ρ' = .ok false
  | 0, m, ρ, h, _ => by omega
  | n + 1, m, ρ, h, s => by
    unfold whGo
    rcases hs m ρ s with ⟨e, m', ρ', hm, e2, s2⟩ | e
    · obtain ⟨m2, ρ2, q1, q2, q3⟩ := while50 S hs n m' ρ' (by omega) s2
      refine ⟨m2, ρ2, ?_, q2, q3⟩
      rw [e]
      show (match g ρ with | .nx ρ' => whGo fb g n ρ' | .ct ρ' => whGo fb g n ρ' | .bk ρ' => .nx ρ' | o => o) = _
      rw [e2]
      exact q1
    · refine ⟨m, ρ, ?_, s, e⟩
      rw [e]
      rfl
def stpD : Option (Int × Int) → PyData
  | none => .none
  | some (i, a) => tu [i, a]
def dkS (S : Stp) : List (Int × PyData) := S.map fun x => (x.1, stpD x.2)
def exD (n : Int) (E : Int → List (Int × Int)) : PyData := .list ((rangeI 0 n).map fun a => .list ((E a).map pD50))
theorem getK_dkS : ∀ (S : Stp) (b : Int), (getK (dkS S) b).isSome = decide (b ∈ keyS S)
  | [], b => rfl
  | x :: S, b => by
    have ih := getK_dkS S b
    unfold getK dkS at ih ⊢
    rw [List.map_cons, List.find?_cons]
    unfold keyS at ih ⊢
    rw [List.map_cons]
    by_cases e : x.1 = b
    · rw [decide_eq_true (show x.1 = b from e)]
      simp [e]
    · rw [decide_eq_false (show ¬ x.1 = b from e)]
      dsimp only
      rw [ih]
      refine decide_eq_decide.mpr ⟨fun h => List.mem_cons_of_mem _ h, fun h => ?_⟩
      rcases List.mem_cons.mp h with h | h
      · exact absurd h.symm e
      · exact h
theorem any_dkS (S : Stp) (b : Int) : ((dkS S).any fun x => decide (x.1 = b)) = decide (b ∈ keyS S) := by
  unfold dkS keyS
  rw [List.any_map, Bool.eq_iff_iff, List.any_eq_true, decide_eq_true_iff, List.mem_map]
  simp
theorem put_dkS {S : Stp} {b i a : Int} (h : ¬ b ∈ keyS S) : putKD (dkS S) b (tu [i, a]) = dkS (S ++ [(b, some (i, a))]) := by
  unfold putKD
  rw [any_dkS, if_neg (by simpa using h)]
  unfold dkS
  rw [List.map_append]
  rfl
section
variable {E : Int → List (Int × Int)} {n s : Int}
theorem bstep_len (a : Int) (q : Stp × List Int) (p : Int × Int) : q.1.length ≤ (bstep a q p).1.length ∧ (bstep a q p).1.length + q.2.length = q.1.length + (bstep a q p).2.length := by
  unfold bstep
  split
  · exact ⟨Nat.le_refl _, rfl⟩
  · simp only [List.length_append, List.length_singleton]; omega
theorem bfold_len (a : Int) : ∀ (xs : List (Int × Int)) (q : Stp × List Int), q.1.length ≤ (xs.foldl (bstep a) q).1.length ∧ (xs.foldl (bstep a) q).1.length + q.2.length = q.1.length + (xs.foldl (bstep a) q).2.length
  | [], q => ⟨Nat.le_refl _, rfl⟩
  | x :: xs, q => by
    have h1 := bstep_len a q x
    have h2 := bfold_len a xs (bstep a q x)
    rw [List.foldl_cons]
    omega
theorem blay_len : ∀ (R : List Int) (q : Stp × List Int), q.1.length ≤ (R.foldl (blay1 E) q).1.length ∧ (R.foldl (blay1 E) q).1.length + q.2.length = q.1.length + (R.foldl (blay1 E) q).2.length
  | [], q => ⟨Nat.le_refl _, rfl⟩
  | x :: xs, q => by
    have h1 := bfold_len x (E x) q
    have h2 := blay_len xs (blay1 E q x)
    rw [List.foldl_cons]
    have e : blay1 E q x = (E x).foldl (bstep x) q := rfl
    rw [e] at h2 ⊢
    omega
theorem bstep_new {K0 : List Int} (a : Int) (q : Stp × List Int) (p : Int × Int) (h : ∀ x ∈ keyS q.1, x ∈ K0 ∨ x ∈ q.2) : ∀ x ∈ keyS (bstep a q p).1, x ∈ K0 ∨ x ∈ (bstep a q p).2 := by
  unfold bstep
  split
  · exact h
  · intro x hx
    dsimp only at hx ⊢
    rw [keyS_snoc] at hx
    rcases List.mem_append.mp hx with hx | hx
    · rcases h x hx with h | h
      · exact .inl h
      · exact .inr (List.mem_append_left _ h)
    · exact .inr (List.mem_append_right _ hx)
theorem bfold_new {K0 : List Int} (a : Int) : ∀ (xs : List (Int × Int)) (q : Stp × List Int), (∀ x ∈ keyS q.1, x ∈ K0 ∨ x ∈ q.2) → ∀ x ∈ keyS (xs.foldl (bstep a) q).1, x ∈ K0 ∨ x ∈ (xs.foldl (bstep a) q).2
  | [], q, h => h
  | p :: xs, q, h => bfold_new a xs _ (bstep_new a q p h)
theorem blay_new {K0 : List Int} : ∀ (R : List Int) (q : Stp × List Int), (∀ x ∈ keyS q.1, x ∈ K0 ∨ x ∈ q.2) → ∀ x ∈ keyS (R.foldl (blay1 E) q).1, x ∈ K0 ∨ x ∈ (R.foldl (blay1 E) q).2
  | [], q, h => h
  | a :: R, q, h => blay_new R _ (bfold_new a (E a) q h)
theorem lay_rng {S : Stp} {F : List Int} {dep : Int → Nat} {d : Nat} {dn : Int → Prop} (hE : ∀ a i b, (i, b) ∈ E a → 0 ≤ b ∧ b < n) (hs : 0 ≤ s ∧ s < n) (L : Lay E s S F dep d dn) : (∀ b ∈ keyS S, 0 ≤ b ∧ b < n) ∧ S.length ≤ n.toNat := by
  have r : ∀ b ∈ keyS S, 0 ≤ b ∧ b < n := fun b hb => by
    obtain ⟨⟨b', v⟩, hv, rfl⟩ := List.mem_map.mp hb
    rcases L.back b' v hv with ⟨h1, _, _⟩ | ⟨i, a, _, _, h3, _⟩
    · subst h1; exact hs
    · exact hE a i b' h3
  refine ⟨r, ?_⟩
  have := nodup_le50 (k := rangeI 0 n) L.nd fun x hx => mem_rangeI.mpr (r x hx)
  rw [rng_len] at this
  unfold keyS at this
  rwa [List.length_map] at this
def ro7 (n : Int) (E : Int → List (Int × Int)) (s : Int) (S : Stp) (R : List Int) (x y z w : Option Sl) : Rho := [some (.d (exD n E)), some (.d (.int s)), some (.dk (dkS S)), some (.d (li R)), x, y, z, w]
theorem v_steps_in {a : Int} {R : List Int} : ∀ (xs : List (Int × Int)) (q : Stp × List Int) (z w : Option Sl), (xs.foldl (bstep a) q).1.length ≤ 1000 → (xs.foldl (bstep a) q).2.length ≤ 1000 → ∃ z' w',
    forGo (.tp [(.nm 6), (.nm 7)]) b_steps_from_1 (xs.map pD50) (ro7 n E s q.1 R (some (.own (q.2.map .int))) (some (.d (.int a))) z w) =
    .nx (ro7 n E s (xs.foldl (bstep a) q).1 R (some (.own ((xs.foldl (bstep a) q).2.map .int))) (some (.d (.int a))) z' w')
  | [], q, z, w, _, _ => ⟨z, w, rfl⟩
  | (i, b) :: xs, q, z, w, h1, h2 => by
    obtain ⟨z', w', ih⟩ := v_steps_in (R := R) xs (bstep a q (i, b)) (some (.d (.int i))) (some (.d (.int b))) h1 h2
    refine ⟨z', w', ?_⟩
    rw [List.map_cons, List.foldl_cons, ← ih]
    conv => lhs; unfold forGo
    have st : Tg.set (.tp [(.nm 6), (.nm 7)]) (pD50 (i, b)) (ro7 n E s q.1 R (some (.own (q.2.map .int))) (some (.d (.int a))) z w) = some (ro7 n E s q.1 R (some (.own (q.2.map .int))) (some (.d (.int a))) (some (.d (.int i))) (some (.d (.int b)))) := set_tp2 6 7 (.int i) (.int b) _
    rw [st]
    dsimp only
    have l1 := (bstep_len a q (i, b)).1
    have l2 := (bfold_len a xs (bstep a q (i, b)))
    rw [List.foldl_cons] at h1 h2
    have e : b_steps_from_1 (ro7 n E s q.1 R (some (.own (q.2.map .int))) (some (.d (.int a))) (some (.d (.int i))) (some (.d (.int b)))) = .nx (ro7 n E s (bstep a q (i, b)).1 R (some (.own ((bstep a q (i, b)).2.map .int))) (some (.d (.int a))) (some (.d (.int i))) (some (.d (.int b)))) := by
      have nin : dDkNin 2 (dVar 7) (ro7 n E s q.1 R (some (.own (q.2.map .int))) (some (.d (.int a))) (some (.d (.int i))) (some (.d (.int b)))) = .ok (.bool (!decide (b ∈ keyS q.1))) := by
        show PD.R.ok (PyData.bool (!(getK (dkS q.1) b).isSome)) = _
        rw [getK_dkS]
      unfold b_steps_from_1
      rw [ev_ifs]
      have nb : dAsB (dDkNin 2 (dVar 7)) (ro7 n E s q.1 R (some (.own (q.2.map .int))) (some (.d (.int a))) (some (.d (.int i))) (some (.d (.int b)))) = .ok (!decide (b ∈ keyS q.1)) := by
        unfold dAsB
        rw [nin]
        rfl
      rw [nb]
      show (if (!decide (b ∈ keyS q.1)) = true then _ else _) = _
      have b1 : (bstep a q (i, b)).1.length ≤ 1000 := by omega
      have b2 : (bstep a q (i, b)).2.length ≤ 1000 := by omega
      clear l1 l2 h1 h2 ih
      by_cases c : b ∈ keyS q.1
      · have eb : bstep a q (i, b) = q := if_pos c
        rw [if_neg (by simp [c]), eb]
        rfl
      · have eb : bstep a q (i, b) = (q.1 ++ [(b, some (i, a))], q.2 ++ [b]) := if_neg c
        rw [eb] at b1 b2 ⊢
        rw [if_pos (by simp [c])]
        dsimp only at b1 b2
        rw [List.length_append, List.length_singleton] at b1 b2
        show (match gDkPut 2 (dVar 7) (dTup (dCons (dVar 6) (dCons (dVar 5) dNil))) (ro7 n E s q.1 R (some (.own (q.2.map .int))) (some (.d (.int a))) (some (.d (.int i))) (some (.d (.int b)))) with | .nx ρ' => gApp 4 (dVar 7) ρ' | o => o) = _
        have h3 : (dkS q.1).length < sizeLine := line_lt (by unfold dkS; rw [List.length_map]; omega)
        have pt : gDkPut 2 (dVar 7) (dTup (dCons (dVar 6) (dCons (dVar 5) dNil))) (ro7 n E s q.1 R (some (.own (q.2.map .int))) (some (.d (.int a))) (some (.d (.int i))) (some (.d (.int b)))) = .nx (ro7 n E s (q.1 ++ [(b, some (i, a))]) R (some (.own (q.2.map .int))) (some (.d (.int a))) (some (.d (.int i))) (some (.d (.int b)))) := by
          show (if (dkS q.1).length < sizeLine then Out.nx (ro7 n E s q.1 R _ _ _ _ |>.set 2 (some (.dk (putKD (dkS q.1) b (tu [i, a]))))) else .bad) = _
          rw [if_pos h3, put_dkS c]
          rfl
        rw [pt]
        dsimp only
        have h4 : (q.2.map PyData.int).length < sizeLine := line_lt (by rw [List.length_map]; omega)
        show (if (q.2.map PyData.int).length < sizeLine then Out.nx (ro7 n E s (q.1 ++ [(b, some (i, a))]) R (some (.own (q.2.map .int))) _ _ _ |>.set 4 (some (.own (q.2.map .int ++ [.int b])))) else .bad) = _
        rw [if_pos h4, List.map_append]
        rfl
    rw [e]
theorem ex_at {a : Int} (h0 : 0 ≤ a) (h1 : a < n) : oIx (exD n E) (.int a) = .ok (.list ((E a).map pD50)) := by
  show (match atI ((rangeI 0 n).map fun a => PyData.list ((E a).map pD50)) a with | some x => R.ok x | none => .bad) = _
  rw [atI_get (fun a => PyData.list ((E a).map pD50)) h0 (x := a) (by rw [rangeI_get (by omega)]; congr 1; omega)]
theorem v_steps_lay {R0 : List Int} : ∀ (R : List Int) (q : Stp × List Int) (y z w : Option Sl), (∀ a ∈ R, 0 ≤ a ∧ a < n) → (R.foldl (blay1 E) q).1.length ≤ 1000 → (R.foldl (blay1 E) q).2.length ≤ 1000 → ∃ y' z' w',
    forGo (.nm 5) b_steps_from_2 (R.map .int) (ro7 n E s q.1 R0 (some (.own (q.2.map .int))) y z w) =
    .nx (ro7 n E s (R.foldl (blay1 E) q).1 R0 (some (.own ((R.foldl (blay1 E) q).2.map .int))) y' z' w')
  | [], q, y, z, w, _, _, _ => ⟨y, z, w, rfl⟩
  | a :: R, q, y, z, w, hr, h1, h2 => by
    rw [List.foldl_cons] at h1 h2
    have l := blay_len (E := E) R (blay1 E q a)
    obtain ⟨z1, w1, e1⟩ := v_steps_in (n := n) (E := E) (s := s) (a := a) (R := R0) (E a) q z w (by show (blay1 E q a).1.length ≤ 1000; omega) (by show (blay1 E q a).2.length ≤ 1000; omega)
    obtain ⟨y', z', w', ih⟩ := v_steps_lay (R0 := R0) R (blay1 E q a) (some (.d (.int a))) z1 w1 (fun x hx => hr x (List.mem_cons_of_mem _ hx)) h1 h2
    refine ⟨y', z', w', ?_⟩
    rw [List.map_cons, List.foldl_cons, ← ih]
    conv => lhs; unfold forGo
    rw [set_nm]
    dsimp only
    obtain ⟨a0, a1⟩ := hr a List.mem_cons_self
    have e : b_steps_from_2 ((ro7 n E s q.1 R0 (some (.own (q.2.map .int))) y z w).set 5 (some (.d (.int a)))) = .nx (ro7 n E s (blay1 E q a).1 R0 (some (.own ((blay1 E q a).2.map .int))) (some (.d (.int a))) z1 w1) := by
      show b_steps_from_2 (ro7 n E s q.1 R0 (some (.own (q.2.map .int))) (some (.d (.int a))) z w) = _
      unfold b_steps_from_2
      rw [ev_for]
      have it : dItems (dTwo oIx (dVar 0) (dVar 5)) (ro7 n E s q.1 R0 (some (.own (q.2.map .int))) (some (.d (.int a))) z w) = .ok ((E a).map pD50) := by
        unfold ro7
        simp [ex_at a0 a1]
      rw [it]
      exact e1
    rw [e]
theorem v_steps (hn : 0 ≤ n) (hn2 : n ≤ 50) (hE : ∀ a i b, (i, b) ∈ E a → 0 ≤ b ∧ b < n) (hs : 0 ≤ s ∧ s < n) : ∃ S dep, m_steps_from [exD n E, .int s] = .ok (dkD (dkS S)) ∧ Chn E s S dep ∧ (∀ b ∈ keyS S, 0 ≤ b ∧ b < n) ∧ S.length ≤ n.toNat := by
  obtain ⟨m', ρ', e, ⟨S, R, dep, d, x, y, z, w, L, hR, rfl, hm⟩, stop⟩ := while50 (fb := dAsB (dTwo oGt (dArg bLen (dCons (dVar 3) dNil)) (dC (.int 0)))) (g := b_steps_from_3)
    (fun m ρ => ∃ S R dep d x y z w, Lay E s S [] dep d (fun _ => False) ∧ (∀ a, a ∈ R ↔ a ∈ keyS S ∧ dep a = d) ∧ ρ = ro7 n E s S R x y z w ∧ m + 2 * S.length = 2 * n.toNat + (if R = [] then 0 else 1)) (by
      rintro m ρ ⟨S, R, dep, d, x, y, z, w, L, hR, rfl, hm⟩
      cases R with
      | nil => exact .inr rfl
      | cons r0 R0 =>
        left
        refine ⟨?_, ?_⟩
        · unfold ro7
          simp
        obtain ⟨dep', L1, o1, k1⟩ := lay_layer (r0 :: R0) L fun a ha => (hR a).mp ha
        have nw := blay_new (E := E) (K0 := keyS S) (r0 :: R0) (S, []) (fun x hx => .inl hx)
        have ln := blay_len (E := E) (r0 :: R0) (S, [])
        obtain ⟨rg, lg⟩ := lay_rng hE hs L1
        generalize hT : (r0 :: R0).foldl (blay1 E) (S, []) = T at *
        have all : ∀ a ∈ keyS T.1, dep' a = d → (False ∨ a ∈ r0 :: R0) := fun a ha hd => by
          rcases nw a ha with h | h
          · exact .inr ((hR a).mpr ⟨h, by rw [← o1 a h]; exact hd⟩)
          · have := ((L1.fr a).mp h).2
            omega
        have L2 := lay_next (R := []) L1 all
        obtain ⟨y', z', w', e⟩ := v_steps_lay (n := n) (E := E) (s := s) (R0 := r0 :: R0) (r0 :: R0) (S, []) y z w (fun a ha => rg a (k1 a ((hR a).mp ha).1)) (by rw [hT]; omega) (by rw [hT]; simp at ln; omega)
        rw [hT] at e
        have ln2 : T.1.length = S.length + T.2.length := by simpa using ln.2
        refine ⟨2 * n.toNat + (if T.2 = [] then 0 else 1) - 2 * T.1.length, ro7 n E s T.1 T.2 (some (.d (li T.2))) y' z' w', ?_, ?_, T.1, T.2, dep', d + 1, _, _, _, _, L2, fun a => ?_, rfl, ?_⟩
        · rw [if_neg (by simp)] at hm
          have : T.2 = [] ∨ 1 ≤ T.2.length := by cases T.2 with | nil => exact .inl rfl | cons t ts => right; simp
          rcases this with h | h
          · rw [if_pos h]; rw [h] at ln2; simp at ln2; omega
          · rw [if_neg (fun e => by rw [e] at h; simp at h)]; omega
        · unfold b_steps_from_3
          show (match gOwn (dLst dNil) 4 (ro7 n E s S (r0 :: R0) x y z w) with | .nx ρ' => _ | o => o) = _
          have e0 : gOwn (dLst dNil) 4 (ro7 n E s S (r0 :: R0) x y z w) = .nx (ro7 n E s S (r0 :: R0) (some (.own [])) y z w) := rfl
          rw [e0]
          dsimp only
          show (match gFor (dItems (dVar 3)) (.nm 5) b_steps_from_2 (ro7 n E s S (r0 :: R0) (some (.own [])) y z w) with | .nx ρ' => _ | o => o) = _
          have e1 : gFor (dItems (dVar 3)) (.nm 5) b_steps_from_2 (ro7 n E s S (r0 :: R0) (some (.own [])) y z w) = .nx (ro7 n E s T.1 (r0 :: R0) (some (.own (T.2.map .int))) y' z' w') := e
          rw [e1]
          rfl
        · rw [L1.fr]
        · have := lg; split <;> omega)
    1000000 (2 * n.toNat - 1) (ro7 n E s [(s, none)] [s] none none none none) (by omega) ⟨[(s, none)], [s], fun _ => 0, 0, _, _, _, _, lay_start, fun a => by simp [keyS], rfl, by simp; omega⟩
  have hR0 : R = [] := by
    cases R with
    | nil => rfl
    | cons r R => exfalso; unfold ro7 at stop; simp at stop
  obtain ⟨rg, lg⟩ := lay_rng hE hs L
  refine ⟨S, dep, ?_, lay_end L (fun a ha hd => by have := (hR a).mpr ⟨ha, hd⟩; rw [hR0] at this; cases this), rg, lg⟩
  show endR (g_steps_from [some (.d (exD n E)), some (.d (.int s)), none, none, none, none, none, none]) = _
  have e1 : g_steps_from [some (.d (exD n E)), some (.d (.int s)), none, none, none, none, none, none] = .rt (dkD (dkS S)) := by
    unfold g_steps_from
    show (match gWhile (dAsB (dTwo oGt (dArg bLen (dCons (dVar 3) dNil)) (dC (.int 0)))) b_steps_from_3 (fun _ => 1000000) (ro7 n E s [(s, none)] [s] none none none none) with | .nx ρ' => gFrzK 2 (gRet (dVar 2)) ρ' | o => o) = _
    have e2 : gWhile (dAsB (dTwo oGt (dArg bLen (dCons (dVar 3) dNil)) (dC (.int 0)))) b_steps_from_3 (fun _ => 1000000) (ro7 n E s [(s, none)] [s] none none none none) = .nx (ro7 n E s S R x y z w) := e
    rw [e2]
    rfl
  rw [e1]
  rfl
end
end LW
set_option Elab.async false
set_option linter.all false
set_option maxRecDepth 100000
set_option maxHeartbeats 4000000
namespace LW
open PySem PySem.Spec PyProof.Rows L2 PD
def addI (acc : List Int) (k : Int) : List Int := if k ∈ acc then acc else acc ++ [k]
def thL (ch : List (List Int)) : List Int := ch.foldl (fun acc l => l.foldl addI acc) []
def ssOf (ch : List (List Int)) : List Int := uniq (thL ch)
theorem mem_addI {acc : List Int} {k z : Int} : z ∈ addI acc k ↔ z ∈ acc ∨ z = k := by
  unfold addI
  split
  · rename_i h
    exact ⟨.inl, fun o => o.elim id fun e => e ▸ h⟩
  · simp
theorem nd_addI {acc : List Int} {k : Int} (h : acc.Nodup) : (addI acc k).Nodup := by
  unfold addI
  split
  · exact h
  · rename_i c
    exact List.nodup_append.mpr ⟨h, by simp, fun x hx y hy => by rw [List.mem_singleton.mp hy]; exact fun e => c (e ▸ hx)⟩
theorem mem_addF : ∀ {l acc : List Int} {z : Int}, z ∈ l.foldl addI acc ↔ z ∈ acc ∨ z ∈ l
  | [], acc, z => by simp
  | k :: l, acc, z => by rw [List.foldl_cons, mem_addF, mem_addI, List.mem_cons, or_assoc]
theorem nd_addF : ∀ {l acc : List Int}, acc.Nodup → (l.foldl addI acc).Nodup
  | [], _, h => h
  | _ :: l, _, h => nd_addF (l := l) (nd_addI h)
theorem mem_thF : ∀ {ch : List (List Int)} {acc : List Int} {z : Int}, z ∈ ch.foldl (fun acc l => l.foldl addI acc) acc ↔ z ∈ acc ∨ ∃ l ∈ ch, z ∈ l
  | [], acc, z => by simp
  | l :: ch, acc, z => by rw [List.foldl_cons, mem_thF, mem_addF, or_assoc]; simp
theorem nd_thF : ∀ {ch : List (List Int)} {acc : List Int}, acc.Nodup → (ch.foldl (fun acc l => l.foldl addI acc) acc).Nodup
  | [], _, h => h
  | _ :: ch, _, h => nd_thF (ch := ch) (nd_addF h)
theorem mem_ssOf {ch : List (List Int)} {s : Int} : s ∈ ssOf ch ↔ ∃ l ∈ ch, s ∈ l := by
  unfold ssOf thL
  rw [mem_uniq, mem_thF]
  simp
theorem nd_asc {l : List Int} (h : l.Pairwise (· < ·)) : l.Nodup := h.imp fun h e => by subst e; exact absurd h (Int.lt_irrefl _)
theorem nd_ssOf (ch : List (List Int)) : (ssOf ch).Nodup := nd_asc (uniq_asc _)
def ro8 (a b : PyData) (x y z w : Option Sl) : Rho := [some (.d a), some (.d b), x, y, z, w]
theorem v_dcGo {a b : PyData} {x y z : Option Sl} : ∀ (l : List Int) (w : Option Sl) (acc : List Int), dcGoI (.nm 5) dYes (dVar 5) (ro8 a b x y z w) (l.map .int) acc = .ok (l.foldl addI acc)
  | [], _, acc => rfl
  | k :: l, w, acc => by
    have ih := v_dcGo (a := a) (b := b) (x := x) (y := y) (z := z) l w (addI acc k)
    rw [List.map_cons, List.foldl_cons, ← ih]
    conv => lhs; unfold dcGoI
    rw [set_nm]
    rfl
theorem v_dc2Go {a b : PyData} {x y : Option Sl} : ∀ (ch : List (List Int)) (z w : Option Sl) (acc : List Int), dc2GoI (.nm 4) dYes (dItems (dVar 4)) (.nm 5) dYes (dVar 5) [5] (ro8 a b x y z w) (ch.map tu) acc = .ok (ch.foldl (fun acc l => l.foldl addI acc) acc)
  | [], _, _, acc => rfl
  | l :: ch, z, w, acc => by
    have ih := v_dc2Go (a := a) (b := b) (x := x) (y := y) ch z w (l.foldl addI acc)
    rw [List.map_cons, List.foldl_cons, ← ih]
    conv => lhs; unfold dc2GoI
    rw [set_nm]
    have e := v_dcGo (a := a) (b := b) (x := x) (y := y) (z := some (.d (tu l))) l none acc
    show nx (dcGoI (.nm 5) dYes (dVar 5) (ro8 a b x y (some (.d (tu l))) none) (l.map .int) acc) _ = _
    rw [e]
    rfl
def chD (ss : List Int) (K : Int → Stp) : PyData := dkD (ss.map fun s => (s, dkD (dkS (K s))))
theorem put_new {f : Int → PyData} {pre : List Int} {s : Int} (h : ¬ s ∈ pre) : putKD (pre.map fun s => (s, f s)) s (f s) = (pre ++ [s]).map fun s => (s, f s) := by
  unfold putKD
  rw [if_neg]
  · rw [List.map_append]; rfl
  · rw [List.any_map, List.any_eq_true]
    rintro ⟨x, hx, e⟩
    exact h (of_decide_eq_true e ▸ hx)
theorem v_dkGo {a b e : PyData} {z w : Option Sl} {f : Int → PyData} : ∀ (post pre : List Int) (y : Option Sl), (pre ++ post).Nodup → (∀ s ∈ post, m_steps_from [e, .int s] = .ok (f s)) → dkGo (.nm 3) dYes (dVar 3) (dArg m_steps_from (dCons (dVar 2) (dCons (dVar 3) dNil))) (ro8 a b (some (.d e)) y z w) (post.map .int) (pre.map fun s => (s, f s)) = .ok ((pre ++ post).map fun s => (s, f s))
  | [], pre, y, _, _ => by rw [List.append_nil]; rfl
  | s :: post, pre, y, nd, h => by
    have nd2 : (pre ++ [s] ++ post).Nodup := by rw [List.append_assoc]; exact nd
    have ih := v_dkGo (a := a) (b := b) (e := e) (z := z) (w := w) (f := f) post (pre ++ [s]) y nd2 fun x hx => h x (List.mem_cons_of_mem _ hx)
    have hn : ¬ s ∈ pre := fun m => (List.nodup_append.mp nd).2.2 s m s List.mem_cons_self rfl
    rw [List.append_assoc] at ih
    have ih : dkGo _ _ _ _ _ _ _ = PD.R.ok ((pre ++ s :: post).map fun s => (s, f s)) := ih
    rw [List.map_cons, ← ih]
    conv => lhs; unfold dkGo
    rw [set_nm]
    have ev : dArg m_steps_from (dCons (dVar 2) (dCons (dVar 3) dNil)) ((ro8 a b (some (.d e)) y z w).set 3 (some (.d (.int s)))) = .ok (f s) := by
      show m_steps_from [e, .int s] = _
      exact h s List.mem_cons_self
    show nx (dArg m_steps_from (dCons (dVar 2) (dCons (dVar 3) dNil)) ((ro8 a b (some (.d e)) y z w).set 3 (some (.d (.int s))))) _ = _
    rw [ev]
    show dkGo _ _ _ _ _ _ (putKD (pre.map fun s => (s, f s)) s (f s)) = _
    rw [put_new hn]
section
variable {n : Int} {ps : List Pl} {ch : List (List Int)}
abbrev EE (n : Int) (ps : List Pl) (ch : List (List Int)) : Int → List (Int × Int) := xg n ps ch (rangeI 0 ps.length)
theorem ee_iff (hs : ∀ p ∈ ps, Smooth n p.ls) (a i b : Int) : (i, b) ∈ EE n ps ch a ↔ EdC ps ch i a b := by
  rw [mem_xg, mem_rangeI, mem_part]
  constructor
  · rintro ⟨⟨i0, i1⟩, ha, _, _, hb, hl⟩
    exact ⟨i0, i1, ha, hb, hl⟩
  · rintro ⟨i0, i1, hE⟩
    obtain ⟨b0, b1⟩ := hE.rng (hs _ (plx_mem i0 i1))
    exact ⟨⟨i0, i1⟩, hE.1, b0, b1, hE.2.1, hE.2.2⟩
theorem ss_rng (G : Game n ps) (c : Chs ps ch) {s : Int} (h : s ∈ ssOf ch) : 0 ≤ s ∧ s < n := by
  obtain ⟨l, hl, hs⟩ := mem_ssOf.mp h
  exact (c.asc G.toPlay l hl).2 s hs
/-- what the chains of a choice tell -/
structure Chns (n : Int) (ps : List Pl) (ch : List (List Int)) (K : Int → Stp) (dep : Int → Int → Nat) : Prop where
  run : m_chains_of [gmD n ps, tt ch] = .ok (chD (ssOf ch) K)
  chn : ∀ s ∈ ssOf ch, Chn (EE n ps ch) s (K s) (dep s)
  rng : ∀ s ∈ ssOf ch, ∀ b ∈ keyS (K s), 0 ≤ b ∧ b < n
  len : ∀ s ∈ ssOf ch, (K s).length ≤ n.toNat
theorem v_chains (G : Game n ps) (hs : ∀ p ∈ ps, Smooth n p.ls) (c : Chs ps ch) (hp : ps ≠ []) (hn : n ≤ 50) (hz : ps.length ≤ 100) : ∃ K dep, Chns n ps ch K dep := by
  have n0 := G.n0
  have all : ∀ s : Int, ∃ (S : Stp) (dep : Int → Nat), s ∈ ssOf ch → m_steps_from [exD n (EE n ps ch), .int s] = .ok (dkD (dkS S)) ∧ Chn (EE n ps ch) s S dep ∧ (∀ b ∈ keyS S, 0 ≤ b ∧ b < n) ∧ S.length ≤ n.toNat := fun s => by
    by_cases h : s ∈ ssOf ch
    · obtain ⟨S, dep, h1⟩ := v_steps (E := EE n ps ch) (n := n) (s := s) n0 hn (fun a i b hb => by
        obtain ⟨i0, i1, he⟩ := (ee_iff hs a i b).mp hb
        exact he.rng (hs _ (plx_mem i0 i1))) (ss_rng G c h)
      exact ⟨S, dep, fun _ => h1⟩
    · exact ⟨[], fun _ => 0, fun m => absurd m h⟩
  obtain ⟨K, hK⟩ := Classical.axiomOfChoice all
  obtain ⟨dep, hD⟩ := Classical.axiomOfChoice hK
  refine ⟨K, dep, ?_, fun s h => (hD s h).2.1, fun s h => (hD s h).2.2.1, fun s h => (hD s h).2.2.2⟩
  have ex := v_exchanges G c hp hn hz
  have ex : m_exchanges_of [gmD n ps, tt ch] = .ok (exD n (EE n ps ch)) := ex
  show endR (g_chains_of (ro8 (gmD n ps) (tt ch) none none none none)) = _
  have lt : (thL ch).length < 60 := by
    have := nodup_le50 (l := thL ch) (k := rangeI 0 n) (nd_thF (by simp)) fun x hx => mem_rangeI.mpr (ss_rng G c (mem_uniq.mpr hx))
    rw [rng_len] at this
    omega
  have so : dSortSc2I (dItems (dVar 1)) (.nm 4) dYes (dItems (dVar 4)) (.nm 5) dYes (dVar 5) [4, 5] [5] (ro8 (gmD n ps) (tt ch) (some (.d (exD n (EE n ps ch)))) none none none) = .ok (li (ssOf ch)) := by
    have e := v_dc2Go (a := gmD n ps) (b := tt ch) (x := some (.d (exD n (EE n ps ch)))) (y := none) ch none none []
    show nx (dc2GoI (.nm 4) dYes (dItems (dVar 4)) (.nm 5) dYes (dVar 5) [5] (ro8 (gmD n ps) (tt ch) (some (.d (exD n (EE n ps ch)))) none none none) (ch.map tu) []) _ = _
    rw [e]
    show (if (thL ch).length < 60 then _ else _) = _
    rw [if_pos lt]
    rfl
  have dk := v_dkGo (a := gmD n ps) (b := tt ch) (e := exD n (EE n ps ch)) (z := none) (w := none) (f := fun s => dkD (dkS (K s))) (ssOf ch) [] none (by rw [List.nil_append]; exact nd_ssOf ch) fun s hs => (hD s hs).1
  rw [List.nil_append] at dk
  have dc : dDcK (dItems (dSortSc2I (dItems (dVar 1)) (.nm 4) dYes (dItems (dVar 4)) (.nm 5) dYes (dVar 5) [4, 5] [5])) (.nm 3) dYes (dVar 3) (dArg m_steps_from (dCons (dVar 2) (dCons (dVar 3) dNil))) [3] (ro8 (gmD n ps) (tt ch) (some (.d (exD n (EE n ps ch)))) none none none) = .ok (chD (ssOf ch) K) := by
    have it : dItems (dSortSc2I (dItems (dVar 1)) (.nm 4) dYes (dItems (dVar 4)) (.nm 5) dYes (dVar 5) [4, 5] [5]) (ro8 (gmD n ps) (tt ch) (some (.d (exD n (EE n ps ch)))) none none none) = .ok ((ssOf ch).map .int) := by
      show (dSortSc2I _ _ _ _ _ _ _ _ _ _ >>= items) = _
      rw [so]
      rfl
    unfold dDcK
    rw [it]
    show nx (dkGo _ _ _ _ (ro8 (gmD n ps) (tt ch) (some (.d (exD n (EE n ps ch)))) none none none) _ []) _ = _
    rw [show ([] : List (Int × PyData)) = [].map fun s => (s, dkD (dkS (K s))) from rfl, dk]
    rfl
  have e0 : dArg m_exchanges_of (dCons (dVar 0) (dCons (dVar 1) dNil)) (ro8 (gmD n ps) (tt ch) none none none none) = .ok (exD n (EE n ps ch)) := ex
  unfold g_chains_of
  show endR (match gSet (dArg m_exchanges_of (dCons (dVar 0) (dCons (dVar 1) dNil))) (.nm 2) (ro8 (gmD n ps) (tt ch) none none none none) with | .nx ρ' => _ | o => o) = _
  rw [ev_set, e0]
  show endR (gRet _ (ro8 (gmD n ps) (tt ch) (some (.d (exD n (EE n ps ch)))) none none none)) = _
  rw [ev_ret, dc]
  rfl
end
end LW
set_option Elab.async false
set_option linter.all false
set_option maxRecDepth 100000
set_option maxHeartbeats 4000000
namespace LW
open PySem PySem.Spec PyProof.Rows L2 PD
theorem v_with_lot50 (ch : List (List Int)) (i : Int) (l : List Int) (h0 : 0 ≤ i) (h1 : i < (ch.length : Int)) (hz : ch.length ≤ 900) : m_with_lot [tt ch, .int i, tu l] = .ok (tt (withL ch i l)) := v_law_with ch i l h0 h1 hz
theorem getK_mem : ∀ {S : Stp} {b : Int} {v : Option (Int × Int)}, (keyS S).Nodup → (b, v) ∈ S → getK (dkS S) b = some (stpD v)
  | [], _, _, _, h => nomatch h
  | (c, w) :: S, b, v, nd, h => by
    have nd : (c :: keyS S).Nodup := nd
    obtain ⟨n1, n2⟩ := List.nodup_cons.mp nd
    unfold getK dkS
    rw [List.map_cons, List.find?_cons]
    rcases List.mem_cons.mp h with e | h
    · injection e with e1 e2
      subst e1 e2
      rw [decide_eq_true (show (b, stpD v).1 = b from rfl)]
      rfl
    · have ne : ¬ (c, stpD w).1 = b := fun e => n1 (by rw [show c = b from e]; exact List.mem_map.mpr ⟨_, h, rfl⟩)
      rw [decide_eq_false ne]
      exact getK_mem n2 h
theorem dix_stp {S : Stp} {b : Int} {v : Option (Int × Int)} (nd : (keyS S).Nodup) (h : (b, v) ∈ S) : oDix (dkD (dkS S)) (.int b) = .ok (stpD v) := by
  unfold oDix
  rw [asDk_dkD]
  dsimp only
  rw [getK_mem nd h]
section
variable {n : Int} {ps : List Pl} {ch0 : List (List Int)} {S : Stp} {b0 : Int}
def ro9 (ch0 : List (List Int)) (S : Stp) (b0 : Int) (x y z w : Option Sl) : Rho := [some (.d (tt ch0)), some (.d (dkD (dkS S))), some (.d (.int b0)), x, y, z, w]
theorem v_behind (G : Game n ps) (hs : ∀ p ∈ ps, Smooth n p.ls) (c0 : Chs ps ch0) (hn : n ≤ 50) (hz : ps.length ≤ 100) (nd : (keyS S).Nodup) {r : List (Int × Int)} (hb : Bk S b0 r) (ndr : (b0 :: r.map (·.2)).Nodup) (hp : Pth ps ch0 b0 r) (hl : r.length ≤ 1000) :
    m_behind_chain [tt ch0, dkD (dkS S), .int b0] = .ok (tt (applyC r b0 ch0)) := by
  have n0 := G.n0
  obtain ⟨m', ρ', e, ⟨r', b', ch', x, y, B, ap, c', nd', P', rfl, hm⟩, stop⟩ := while50 (fb := dAsB (dOne (fun d => .ok (.bool (!isNone d))) (dTwo oDix (dVar 1) (dVar 4)))) (g := b_behind_chain_1)
    (fun m ρ => ∃ r' b' ch' x y, Bk S b' r' ∧ applyC r' b' ch' = applyC r b0 ch0 ∧ Chs ps ch' ∧ (b' :: r'.map (·.2)).Nodup ∧ Pth ps ch' b' r' ∧ ρ = ro9 ch0 S b0 (some (.d (tt ch'))) (some (.d (.int b'))) x y ∧ m = r'.length) (by
      rintro m ρ ⟨r', b', ch', x, y, B, ap, c', nd', P', rfl, rfl⟩
      cases B with
      | stop h =>
        right
        have dx := dix_stp nd h
        unfold ro9
        simp [dx, stpD, isNone]
      | @step _ i a r2 h B2 =>
        left
        have dx := dix_stp nd h
        refine ⟨?_, r2.length, ro9 ch0 S b0 (some (.d (tt (withL ch' i (exch (ixr ch' i) a b'))))) (some (.d (.int a))) (some (.d (.int i))) (some (.d (.int a))), by simp, ?_, r2, a, withL ch' i (exch (ixr ch' i) a b'), some (.d (.int i)), some (.d (.int a)), B2, ap, ?_⟩
        · unfold ro9
          simp [dx, stpD, tu, isNone]
        · obtain ⟨h1, h2, h3⟩ := P'
          obtain ⟨i0, i1, _⟩ := id h1
          have al := (chs_asc G.toPlay c' i0 i1).len
          have e1 : oIx (tt ch') (.int i) = .ok (tu (ixr ch' i)) := by
            have hl : i.toNat < ch'.length := by rw [c'.len]; omega
            unfold ixr
            rw [oIx_tt i0 (List.getElem?_eq_getElem hl), List.getElem?_eq_getElem hl]; rfl
          have e2 := v_exchange (ixr ch' i) a b' (by omega)
          have e3 := v_with_lot50 ch' i (exch (ixr ch' i) a b') i0 (by rw [c'.len]; exact i1) (by rw [c'.len]; omega)
          have e0 : gSet (dTwo oDix (dVar 1) (dVar 4)) (.tp [(.nm 5), (.nm 6)]) (ro9 ch0 S b0 (some (.d (tt ch'))) (some (.d (.int b'))) x y) = .nx (ro9 ch0 S b0 (some (.d (tt ch'))) (some (.d (.int b'))) (some (.d (.int i))) (some (.d (.int a)))) := by
            rw [ev_set]
            show oR (oDix (dkD (dkS S)) (.int b')) _ _ = _
            rw [dx]
            show oO (Tg.set (.tp [(.nm 5), (.nm 6)]) (.tuple [.int i, .int a]) _) = _
            rw [set_tp2]
            rfl
          unfold b_behind_chain_1
          show (match gSet (dTwo oDix (dVar 1) (dVar 4)) (.tp [(.nm 5), (.nm 6)]) (ro9 ch0 S b0 (some (.d (tt ch'))) (some (.d (.int b'))) x y) with | .nx ρ' => _ | o => o) = _
          rw [e0]
          unfold ro9
          simp [e1, e2, e3]
        · obtain ⟨h1, h2, h3⟩ := P'
          rw [List.map_cons, List.nodup_cons, List.mem_cons, not_or] at nd'
          obtain ⟨⟨ba, br⟩, nd2⟩ := nd'
          have nd2 : (a :: r2.map (·.2)).Nodup := nd2
          obtain ⟨ar, nd3⟩ := List.nodup_cons.mp nd2
          exact ⟨Chs.with c' h1.1 h1.2.1 h1.2.2.2.2, nd2, pth_step hs c' h1 r2 a h2 (fun q hq => ⟨fun e => br (e ▸ List.mem_map.mpr ⟨q, hq, rfl⟩), fun e => ar (e ▸ List.mem_map.mpr ⟨q, hq, rfl⟩)⟩) (fun e => ba e.symm) (fun q hq e => ar (e ▸ List.mem_map.mpr ⟨q, hq, rfl⟩)) nd3 h3, rfl, rfl⟩)
    1000000 r.length (ro9 ch0 S b0 (some (.d (tt ch0))) (some (.d (.int b0))) none none) (by omega) ⟨r, b0, ch0, _, _, hb, rfl, c0, ndr, hp, rfl, rfl⟩
  have res : applyC r b0 ch0 = ch' := by
    cases B with
    | stop h => exact ap.symm
    | @step _ i a r2 h B2 =>
      exfalso
      have dx := dix_stp nd h
      have : dAsB (dOne (fun d => .ok (.bool (!isNone d))) (dTwo oDix (dVar 1) (dVar 4))) (ro9 ch0 S b0 (some (.d (tt ch'))) (some (.d (.int b'))) x y) = .ok true := by
        unfold ro9
        simp [dx, stpD, tu, isNone]
      rw [this] at stop
      cases stop
  show endR (g_behind_chain (ro9 ch0 S b0 none none none none)) = _
  have e1 : g_behind_chain (ro9 ch0 S b0 none none none none) = .rt (tt ch') := by
    unfold g_behind_chain
    show (match gWhile (dAsB (dOne (fun d => .ok (.bool (!isNone d))) (dTwo oDix (dVar 1) (dVar 4)))) b_behind_chain_1 (fun _ => 1000000) (ro9 ch0 S b0 (some (.d (tt ch0))) (some (.d (.int b0))) none none) with | .nx ρ' => gRet (dVar 3) ρ' | o => o) = _
    have e2 : gWhile (dAsB (dOne (fun d => .ok (.bool (!isNone d))) (dTwo oDix (dVar 1) (dVar 4)))) b_behind_chain_1 (fun _ => 1000000) (ro9 ch0 S b0 (some (.d (tt ch0))) (some (.d (.int b0))) none none) = .nx (ro9 ch0 S b0 (some (.d (tt ch'))) (some (.d (.int b'))) x y) := e
    rw [e2]
    rfl
  rw [e1, res]
  rfl
end
end LW
set_option Elab.async false
set_option linter.all false
set_option maxRecDepth 100000
set_option maxHeartbeats 4000000
namespace LW
open PySem PySem.Spec PyProof.Rows L2 PD
section
variable {n : Int} {ps : List Pl} {C ch : List (List Int)} {K : Int → Stp} {dep : Int → Int → Nat}
def prs (ss : List Int) (K : Int → Stp) : List (Int × Int) := ss.flatMap fun s => ((keyS (K s)).filter fun e => !(e == s)).map fun e => (s, e)
def gn50 (C ch : List (List Int)) (p : Int × Int) : Int := cost C p.2 (load ch p.2 + 1) - cost C p.1 (load ch p.1)
def row50 (C ch : List (List Int)) (p : Int × Int) : List Int := [gn50 C ch p, p.1, p.2]
theorem mem_prs {ss : List Int} {p : Int × Int} : p ∈ prs ss K ↔ p.1 ∈ ss ∧ p.2 ∈ keyS (K p.1) ∧ ¬ p.2 = p.1 := by
  unfold prs
  rw [List.mem_flatMap]
  constructor
  · rintro ⟨s, hs, h⟩
    obtain ⟨e, he, rfl⟩ := List.mem_map.mp h
    obtain ⟨h1, h2⟩ := List.mem_filter.mp he
    exact ⟨hs, h1, by simpa using h2⟩
  · rintro ⟨h1, h2, h3⟩
    exact ⟨p.1, h1, List.mem_map.mpr ⟨p.2, List.mem_filter.mpr ⟨h2, by simpa using h3⟩, rfl⟩⟩
theorem load_lt {i b : Int} (c : Chs ps ch) (i0 : 0 ≤ i) (i1 : i < (ps.length : Int)) (h : ¬ b ∈ ixr ch i) : load ch b < (ps.length : Int) := by
  unfold load
  have := (List.length_filter_lt_length_iff_exists (p := fun l : List Int => decide (b ∈ l))).mpr ⟨ixr ch i, ixr_in c i0 i1, by simpa using h⟩
  rw [← c.len]
  omega
theorem getK_map {f : Int → PyData} : ∀ {ss : List Int} {s : Int}, s ∈ ss → getK (ss.map fun s => (s, f s)) s = some (f s)
  | t :: ss, s, h => by
    unfold getK
    rw [List.map_cons, List.find?_cons]
    by_cases e : t = s
    · subst e
      rw [decide_eq_true (show (t, f t).1 = t from rfl)]
      rfl
    · rw [decide_eq_false (show ¬ (t, f t).1 = s from e)]
      exact getK_map ((List.mem_cons.mp h).resolve_left fun q => e q.symm)
theorem dix_chD {ss : List Int} {s : Int} (h : s ∈ ss) : oDix (chD ss K) (.int s) = .ok (dkD (dkS (K s))) := by
  unfold oDix chD
  rw [asDk_dkD]
  dsimp only
  rw [getK_map h]
theorem keys_chD {ss : List Int} (h : ss.length ≤ 1000) : keysK (chD ss K) = .ok (ss.map .int) := by
  unfold keysK chD
  rw [asDk_dkD]
  dsimp only
  rw [if_pos (by rw [List.length_map, sizeLine_eq]; omega), List.map_map]
  rfl
theorem keys_stp {S : Stp} (h : S.length ≤ 1000) : keysK (dkD (dkS S)) = .ok ((keyS S).map .int) := by
  unfold keysK dkS keyS
  rw [asDk_dkD]
  dsimp only
  rw [if_pos (by rw [List.length_map, sizeLine_eq]; omega), List.map_map, List.map_map]
  rfl
theorem flat_le {α β : Type} {f : α → List β} {k : Nat} : ∀ {l : List α}, (∀ x ∈ l, (f x).length ≤ k) → (l.flatMap f).length ≤ l.length * k
  | [], _ => Nat.zero_le _
  | a :: l, h => by
    have h1 := h a List.mem_cons_self
    have h2 := flat_le (l := l) fun x hx => h x (List.mem_cons_of_mem _ hx)
    rw [List.flatMap_cons, List.length_append, List.length_cons, Nat.succ_mul]
    omega
structure Nice (n : Int) (ps : List Pl) (C : List (List Int)) : Prop extends Same n ps C where
  smo : ∀ p ∈ ps, Smooth n p.ls
  ne : ps ≠ []
  n50 : n ≤ 50
  z100 : ps.length ≤ 100
theorem key_lt (A : Nice n ps C) (c : Chs ps ch) (Q : Chns n ps ch K dep) {s e : Int} (hs : s ∈ ssOf ch) (he : e ∈ keyS (K s)) (ne : ¬ e = s) : load ch e < (ps.length : Int) := by
  obtain ⟨⟨e', v⟩, hv, rfl⟩ := List.mem_map.mp he
  rcases (Q.chn s hs).back e' v hv with ⟨h1, _⟩ | ⟨i, a, _, _, h3, _⟩
  · exact absurd h1 ne
  · obtain ⟨i0, i1, hE⟩ := (ee_iff A.smo a i e').mp h3
    exact load_lt c i0 i1 hE.2.1
theorem ss_pos {s : Int} (hs : s ∈ ssOf ch) : 1 ≤ load ch s := load_pos.mpr (mem_ssOf.mp hs)
theorem ss_len (A : Nice n ps C) (c : Chs ps ch) : (ssOf ch).length ≤ n.toNat := by
  have := nodup_le50 (k := rangeI 0 n) (nd_ssOf ch) fun x hx => mem_rangeI.mpr (ss_rng A.toGame c hx)
  rwa [rng_len] at this
def ro10 (n : Int) (ps : List Pl) (C ch : List (List Int)) (K : Int → Stp) (x a b c y z : Option Sl) : Rho := [some (.d (gmD n ps)), some (.d (tt ch)), some (.d (tt C)), some (.d (tu ((rangeI 0 n).map (load ch)))), some (.d (chD (ssOf ch) K)), x, a, b, c, y, z]
theorem ld_at {t : Int} (h0 : 0 ≤ t) (h1 : t < n) : oIx (tu ((rangeI 0 n).map (load ch))) (.int t) = .ok (.int (load ch t)) := by
  rw [oIx_tu h0 (x := load ch t)]
  rw [List.getElem?_map, rangeI_get (by omega)]
  show some (load ch (0 + (t.toNat : Int))) = _
  congr 2
  omega
theorem v_pairs (A : Nice n ps C) (c : Chs ps ch) (Q : Chns n ps ch K dep) : dLc2 (dKeysK (dVar 4)) (.nm 9) dYes (dKeysK (dTwo oDix (dVar 4) (dVar 9))) (.nm 10) (dAsB (dTwo oNe (dVar 10) (dVar 9))) (dTup (dCons (dTwo oSub (dArg m_cost_at (dCons (dVar 2) (dCons (dVar 10) (dCons (dTwo oAdd (dTwo oIx (dVar 3) (dVar 10)) (dC (.int 1))) dNil)))) (dArg m_cost_at (dCons (dVar 2) (dCons (dVar 9) (dCons (dTwo oIx (dVar 3) (dVar 9)) dNil))))) (dCons (dVar 9) (dCons (dVar 10) dNil)))) [9, 10] [10] (ro10 n ps C ch K none none none none none none) = .ok (.list ((prs (ssOf ch) K).map fun p => tu (row50 C ch p))) := by
  have n0 := A.n0
  have p1 : (0 : Int) < ps.length := by have := List.length_pos_iff.mpr A.ne; omega
  have n50 := A.n50
  have sl := ss_len A c
  obtain ⟨hC, room⟩ := A.room1 (i := 0) (by omega) p1
  have r := lc2_of (enc := PyData.int) (fi := dKeysK (dVar 4)) (t := .nm 9) (ft := dYes) (fi1 := dKeysK (dTwo oDix (dVar 4) (dVar 9))) (t1 := .nm 10) (ft1 := dAsB (dTwo oNe (dVar 10) (dVar 9))) (fe := dTup (dCons (dTwo oSub (dArg m_cost_at (dCons (dVar 2) (dCons (dVar 10) (dCons (dTwo oAdd (dTwo oIx (dVar 3) (dVar 10)) (dC (.int 1))) dNil)))) (dArg m_cost_at (dCons (dVar 2) (dCons (dVar 9) (dCons (dTwo oIx (dVar 3) (dVar 9)) dNil))))) (dCons (dVar 9) (dCons (dVar 10) dNil)))) (vs := [9, 10]) (vs1 := [10]) (ρ := ro10 n ps C ch K none none none none none none) (xs := ssOf ch) (st := fun s => ro10 n ps C ch K none none none none (some (.d (.int s))) none) (q := fun _ => true) (es := fun s => (keyS (K s)).map .int) (ys := fun s => ((keyS (K s)).filter fun e => !(e == s)).map fun e => tu (row50 C ch (s, e))) (by
      show keysK (chD (ssOf ch) K) = _
      exact keys_chD (by omega)) (fun s hs => ⟨rfl, rfl, fun _ => ⟨by
        show (oDix (chD (ssOf ch) K) (.int s) >>= keysK) = _
        rw [dix_chD hs, R.bind_ok, keys_stp (by have := Q.len s hs; omega)], by
        refine lcGo_of (enc := PyData.int) (xs := keyS (K s)) (st := fun e => ro10 n ps C ch K none none none none (some (.d (.int s))) (some (.d (.int e)))) (q := fun e => !(e == s)) (g := fun e => tu (row50 C ch (s, e))) fun e he => ⟨rfl, rfl, fun ne => ?_⟩
        have ne : ¬ e = s := by simpa using ne
        obtain ⟨e0, e1⟩ := Q.rng s hs e he
        obtain ⟨s0, s1⟩ := ss_rng A.toGame c hs
        have l1 := load_le (ch := ch) (x := s)
        have l2 := load_le (ch := ch) (x := e)
        rw [c.len] at l1 l2
        have c1 := v_cost_at C e (load ch e + 1) e0 (by omega) (by omega) (by have := key_lt A c Q hs he ne; have := room e e0 e1; omega)
        have c2 := v_cost_at C s (load ch s) s0 (by omega) (ss_pos hs) (by have := room s s0 s1; omega)
        unfold ro10
        simp [ld_at e0 e1, ld_at s0 s1, c1, c2, row50, gn50]
        rfl⟩⟩) (by
      have h1 := flat_le (f := fun s => ((keyS (K s)).filter fun e => !(e == s)).map fun e => tu (row50 C ch (s, e))) (k := 50) (l := (ssOf ch).filter fun _ => true) fun s hs => by
        have hs := (List.mem_filter.mp hs).1
        have h2 := Q.len s hs
        have h3 := List.length_filter_le (fun e => !(e == s)) (keyS (K s))
        have h4 : (keyS (K s)).length = (K s).length := by unfold keyS; rw [List.length_map]
        rw [List.length_map]
        omega
      have h2 := List.length_filter_le (fun _ => true) (ssOf ch)
      have h3 : ((ssOf ch).filter fun _ => true).length * 50 ≤ 50 * 50 := Nat.mul_le_mul (by omega) (Nat.le_refl _)
      omega)
  rw [r, List.filter_eq_self.mpr (fun _ _ => rfl)]
  congr 2
  unfold prs
  rw [List.map_flatMap]
  congr 1
  funext s
  rw [List.map_map]
  rfl
/-- the least of all changes -/
theorem v_least50 (ps50 : List (Int × Int)) : ∃ m : Option (Int × Int), bMinDf (.list (ps50.map fun p => tu (row50 C ch p))) (tu [0, 0, 0]) = .ok (match m with | some p => tu (row50 C ch p) | none => tu [0, 0, 0]) ∧ (match m with | some p => p ∈ ps50 ∧ ∀ q ∈ ps50, gn50 C ch p ≤ gn50 C ch q | none => ps50 = []) := by
  cases ps50 with
  | nil => exact ⟨none, rfl, rfl⟩
  | cons p B =>
    have em : ((p :: B).map fun p => tu (row50 C ch p)) = tu (row50 C ch p) :: (B.map (row50 C ch)).map tu := by
      rw [List.map_cons, List.map_map]; rfl
    have em2 : tu (row50 C ch p) :: (B.map (row50 C ch)).map tu = (row50 C ch p :: B.map (row50 C ch)).map tu := rfl
    have bm : bMinDf (.list ((p :: B).map fun p => tu (row50 C ch p))) (tu [0, 0, 0]) = .ok (tu (minT (row50 C ch p) (B.map (row50 C ch)))) := by
      rw [em, ← minD_tu]
      exact if_pos (by rw [em2, okSort_tus])
    obtain ⟨m, hm, hmin⟩ : ∃ m ∈ p :: B, minT (row50 C ch p) (B.map (row50 C ch)) = row50 C ch m := by
      rcases minT_mem (B.map (row50 C ch)) (row50 C ch p) with h | h
      · exact ⟨p, List.mem_cons_self, h⟩
      · obtain ⟨m, hm, e⟩ := List.mem_map.mp h
        exact ⟨m, List.mem_cons_of_mem _ hm, e.symm⟩
    refine ⟨some m, by rw [bm, hmin], hm, fun q hq => ?_⟩
    have : leT (row50 C ch m) (row50 C ch q) = true := by
      rw [← hmin]
      obtain ⟨h1, h2⟩ := minT_le (B.map (row50 C ch)) (row50 C ch p)
      rcases List.mem_cons.mp hq with rfl | hq
      · exact h1
      · exact h2 _ (List.mem_map.mpr ⟨q, hq, rfl⟩)
    have := le3 this
    omega
/-- one chain: the loads behind it -/
structure Mv (n : Int) (ps : List Pl) (C ch dh : List (List Int)) (s e : Int) : Prop where
  s0 : 0 ≤ s ∧ s < n
  e0 : 0 ≤ e ∧ e < n
  ne : ¬ s = e
  ls : 1 ≤ load ch s ∧ load ch s ≤ (ps.length : Int)
  le : 0 ≤ load ch e ∧ load ch e < (ps.length : Int)
  ld : ∀ z, load dh z = load ch z - (if z = s then 1 else 0) + (if z = e then 1 else 0)
  lt : cost C e (load ch e + 1) < cost C s (load ch s)
theorem v_lessened (A : Nice n ps C) (c : Chs ps ch) (Q : Chns n ps ch K dep) :
    (m_lessened [gmD n ps, tt ch] = .ok .none ∧ Opt C ch (ssOf ch) K) ∨ ∃ dh s e, m_lessened [gmD n ps, tt ch] = .ok (tt dh) ∧ Chs ps dh ∧ Mv n ps C ch dh s e := by
  have n0 := A.n0
  have n50 := A.n50
  have p1 : (0 : Int) < ps.length := by have := List.length_pos_iff.mpr A.ne; omega
  obtain ⟨hC, room⟩ := A.room1 (i := 0) (by omega) p1
  have i0 : oIx (gmD n ps) (.int 0) = .ok (tkD n (plx ps 0)) := ix_tk (by decide) p1
  have i1 : oIx (tkD n (plx ps 0)) (.int 1) = .ok (tt C) := by rw [tk_p1, A.same _ (plx_mem (by decide) p1)]
  have i2 : m_loads [gmD n ps, tt ch] = .ok (tu ((rangeI 0 n).map (load ch))) := by
    have := v_loads n ps ch A.toGame c
    rwa [if_neg A.ne] at this
  have i3 := Q.run
  have i5 := v_pairs A c Q
  obtain ⟨m, i6, hm⟩ := v_least50 (C := C) (ch := ch) (prs (ssOf ch) K)
  have fin : ∀ g a b : Int, (Tg.tp [(.nm 6), (.nm 7), (.nm 8)]).set (tu [g, a, b]) (ro10 n ps C ch K (some (.d (.list ((prs (ssOf ch) K).map fun p => tu (row50 C ch p))))) none none none none none) = some (ro10 n ps C ch K (some (.d (.list ((prs (ssOf ch) K).map fun p => tu (row50 C ch p))))) (some (.d (.int g))) (some (.d (.int a))) (some (.d (.int b))) none none) := fun g a b => by
    show Tg.set (.tp [.nm 6, .nm 7, .nm 8]) (.tuple [.int g, .int a, .int b]) _ = _
    unfold ro10
    simp [Tg.set, Tg.sets]
  have key : ∀ g a b : Int, bMinDf (.list ((prs (ssOf ch) K).map fun p => tu (row50 C ch p))) (tu [0, 0, 0]) = .ok (tu [g, a, b]) → m_lessened [gmD n ps, tt ch] = endR (gRet (dIf (dAsB (dTwo oLt (dVar 6) (dC (.int 0)))) (dArg m_behind_chain (dCons (dVar 1) (dCons (dTwo oDix (dVar 4) (dVar 7)) (dCons (dVar 8) dNil)))) (dC .none)) (ro10 n ps C ch K (some (.d (.list ((prs (ssOf ch) K).map fun p => tu (row50 C ch p))))) (some (.d (.int g))) (some (.d (.int a))) (some (.d (.int b))) none none)) := fun g a b h => by
    show endR (g_lessened [some (.d (gmD n ps)), some (.d (tt ch)), none, none, none, none, none, none, none, none, none]) = _
    unfold g_lessened
    have s2 : gSet (dTwo oIx (dTwo oIx (dVar 0) (dC (.int 0))) (dC (.int 1))) (.nm 2) [some (.d (gmD n ps)), some (.d (tt ch)), none, none, none, none, none, none, none, none, none] = .nx [some (.d (gmD n ps)), some (.d (tt ch)), some (.d (tt C)), none, none, none, none, none, none, none, none] := by
      simp [i0, i1]
    have s3 : gSet (dArg m_loads (dCons (dVar 0) (dCons (dVar 1) dNil))) (.nm 3) [some (.d (gmD n ps)), some (.d (tt ch)), some (.d (tt C)), none, none, none, none, none, none, none, none] = .nx [some (.d (gmD n ps)), some (.d (tt ch)), some (.d (tt C)), some (.d (tu ((rangeI 0 n).map (load ch)))), none, none, none, none, none, none, none] := by
      simp [i2]
    have s4 : gSet (dArg m_chains_of (dCons (dVar 0) (dCons (dVar 1) dNil))) (.nm 4) [some (.d (gmD n ps)), some (.d (tt ch)), some (.d (tt C)), some (.d (tu ((rangeI 0 n).map (load ch)))), none, none, none, none, none, none, none] = .nx (ro10 n ps C ch K none none none none none none) := by
      simp [i3]
      rfl
    show endR (match gSet (dTwo oIx (dTwo oIx (dVar 0) (dC (.int 0))) (dC (.int 1))) (.nm 2) _ with | .nx ρ' => _ | o => o) = _
    rw [s2]
    show endR (match gSet (dArg m_loads (dCons (dVar 0) (dCons (dVar 1) dNil))) (.nm 3) _ with | .nx ρ' => _ | o => o) = _
    rw [s3]
    show endR (match gSet (dArg m_chains_of (dCons (dVar 0) (dCons (dVar 1) dNil))) (.nm 4) _ with | .nx ρ' => _ | o => o) = _
    rw [s4]
    show endR (match gSet (dLc2 _ _ _ _ _ _ _ _ _) (.nm 5) (ro10 n ps C ch K none none none none none none) with | .nx ρ' => _ | o => o) = _
    rw [ev_set, i5]
    show endR (match gSet (dTwo bMinDf (dVar 5) (dTup (dCons (dC (.int 0)) (dCons (dC (.int 0)) (dCons (dC (.int 0)) dNil))))) (.tp [(.nm 6), (.nm 7), (.nm 8)]) (ro10 n ps C ch K (some (.d (.list ((prs (ssOf ch) K).map fun p => tu (row50 C ch p))))) none none none none none) with | .nx ρ' => _ | o => o) = _
    have s6 : dTwo bMinDf (dVar 5) (dTup (dCons (dC (.int 0)) (dCons (dC (.int 0)) (dCons (dC (.int 0)) dNil)))) (ro10 n ps C ch K (some (.d (.list ((prs (ssOf ch) K).map fun p => tu (row50 C ch p))))) none none none none none) = .ok (tu [g, a, b]) := h
    rw [ev_set, s6]
    show endR (match oO ((Tg.tp [(.nm 6), (.nm 7), (.nm 8)]).set (tu [g, a, b]) _) with | .nx ρ' => _ | o => o) = _
    rw [fin]
    rfl
  have none_ : ∀ g a b : Int, ¬ g < 0 → m_lessened [gmD n ps, tt ch] = endR (gRet (dIf (dAsB (dTwo oLt (dVar 6) (dC (.int 0)))) (dArg m_behind_chain (dCons (dVar 1) (dCons (dTwo oDix (dVar 4) (dVar 7)) (dCons (dVar 8) dNil)))) (dC .none)) (ro10 n ps C ch K (some (.d (.list ((prs (ssOf ch) K).map fun p => tu (row50 C ch p))))) (some (.d (.int g))) (some (.d (.int a))) (some (.d (.int b))) none none)) → m_lessened [gmD n ps, tt ch] = .ok .none := fun g a b hg h => by
    rw [h]
    unfold ro10
    simp [hg]
  cases m with
  | none =>
    left
    have hm : prs (ssOf ch) K = [] := hm
    refine ⟨none_ 0 0 0 (by omega) (key 0 0 0 i6), fun s hs t ht ne => ?_⟩
    have := (mem_prs (K := K)).mpr (show (s, t).1 ∈ ssOf ch ∧ (s, t).2 ∈ keyS (K (s, t).1) ∧ ¬ (s, t).2 = (s, t).1 from ⟨hs, ht, ne⟩)
    rw [hm] at this
    cases this
  | some p =>
    obtain ⟨s, e⟩ := p
    obtain ⟨hp, least⟩ := hm
    by_cases neg : gn50 C ch (s, e) < 0
    · right
      obtain ⟨hs, he, ne⟩ := mem_prs.mp hp
      have hs : s ∈ ssOf ch := hs
      have he : e ∈ keyS (K s) := he
      have ne : ¬ e = s := ne
      obtain ⟨r, r1, r2, r3, r4, r5, r6⟩ := chn_bk (ps := ps) (ch := ch) (ee_iff A.smo) (Q.chn s hs) _ e he rfl
      have rl : r.length ≤ 1000 := by
        have := nodup_le50 (k := rangeI 0 n) r5 fun x hx => mem_rangeI.mpr (Q.rng s hs x (by
          rcases List.mem_cons.mp hx with rfl | hx
          · exact he
          · obtain ⟨q, hq, rfl⟩ := List.mem_map.mp hx
            exact (r4 q hq).1))
        rw [rng_len, List.length_cons, List.length_map] at this
        omega
      have vb := v_behind A.toGame A.smo c n50 A.z100 (Q.chn s hs).nd r1 r5 r6 rl
      obtain ⟨c', ld⟩ := applyC_ok A.toGame A.smo r e ch c r5 r6
      refine ⟨applyC r e ch, s, e, ?_, c', ?_⟩
      · rw [key _ s e i6]
        unfold ro10
        simp [neg, dix_chD hs, vb]
      · rw [r2] at ld
        obtain ⟨e0, e1⟩ := Q.rng s hs e he
        obtain ⟨s0, s1⟩ := ss_rng A.toGame c hs
        have l1 := load_le (ch := ch) (x := s)
        have l2 := load_le (ch := ch) (x := e)
        rw [c.len] at l1 l2
        unfold gn50 at neg
        dsimp only at neg
        exact ⟨⟨s0, s1⟩, ⟨e0, e1⟩, fun q => ne q.symm, ⟨ss_pos hs, l1.2⟩, ⟨l2.1, key_lt A c Q hs he ne⟩, ld, by omega⟩
    · left
      refine ⟨none_ _ s e neg (key _ s e i6), fun a ha t ht ne => ?_⟩
      have := least (a, t) (mem_prs.mpr ⟨ha, ht, ne⟩)
      unfold gn50 at this neg
      dsimp only at this neg
      omega
end
end LW
set_option Elab.async false
set_option linter.all false
set_option maxRecDepth 100000
set_option maxHeartbeats 4000000
namespace LW
open PySem PySem.Spec PyProof.Rows L2 PD
section
variable {n : Int} {ps : List Pl} {C ch dh : List (List Int)}
def cells (n : Int) (T : Nat) (C : List (List Int)) : List Int := (rangeI 0 n).flatMap fun x => (ixr C x).take T
def rk (n : Int) (T : Nat) (C : List (List Int)) (v : Int) : Int := ((cells n T C).filter fun w => decide (w < v)).length
theorem rk_lt {T : Nat} {v w : Int} (h : v ∈ cells n T C) (lt : v < w) : rk n T C v < rk n T C w := by
  unfold rk
  have e : (cells n T C).filter (fun z => decide (z < v)) = ((cells n T C).filter fun z => decide (z < w)).filter fun z => decide (z < v) := by
    rw [List.filter_filter]
    refine List.filter_congr fun z _ => ?_
    by_cases c : z < v
    · have : z < w := by omega
      simp [c, this]
    · simp [c]
  rw [e]
  have := (List.length_filter_lt_length_iff_exists (l := (cells n T C).filter fun z => decide (z < w)) (p := fun z : Int => decide (z < v))).mpr ⟨v, List.mem_filter.mpr ⟨h, decide_eq_true lt⟩, by simp⟩
  omega
theorem rk_le {T : Nat} {v : Int} : 0 ≤ rk n T C v ∧ rk n T C v ≤ (n.toNat * T : Nat) := by
  unfold rk
  have h1 := List.length_filter_le (fun w => decide (w < v)) (cells n T C)
  have h2 : (cells n T C).length ≤ n.toNat * T := by
    have := flat_le (f := fun x => (ixr C x).take T) (k := T) (l := rangeI 0 n) fun x _ => by rw [List.length_take]; omega
    rw [rng_len] at this
    exact this
  omega
def rkC (n : Int) (T : Nat) (C : List (List Int)) : List (List Int) := C.map fun r => r.map (rk n T C)
theorem rkC_row {T : Nat} {x : Int} : ixr (rkC n T C) x = (ixr C x).map (rk n T C) := by
  unfold ixr rkC
  rw [List.getElem?_map]
  cases C[x.toNat]? with
  | none => rfl
  | some r => rfl
theorem rkC_cost {T : Nat} {x k : Int} (h1 : 1 ≤ k) (h2 : k ≤ ((ixr C x).length : Int)) : cost (rkC n T C) x k = rk n T C (cost C x k) := by
  unfold cost ixv
  rw [rkC_row, List.getElem?_map]
  have l : (k - 1).toNat < (ixr C x).length := by omega
  rw [List.getElem?_eq_getElem l]
  rfl
theorem sum_bnd {N : Int} (hN : 0 ≤ N) : ∀ {l : List Int}, (∀ v ∈ l, 0 ≤ v ∧ v ≤ N) → 0 ≤ l.sum ∧ l.sum ≤ l.length * N
  | [], _ => by simp
  | a :: l, h => by
    have h1 := h a List.mem_cons_self
    have h2 := sum_bnd hN (l := l) fun v hv => h v (List.mem_cons_of_mem _ hv)
    have e : (((a :: l).length : Nat) : Int) * N = l.length * N + N := by
      rw [List.length_cons, show (((l.length + 1 : Nat)) : Int) = (l.length : Int) + 1 by omega, Int.add_mul, Int.one_mul]
    rw [e, List.sum_cons]
    omega
theorem phi_bnd {T : Nat} {f : Int → Int} (n0 : 0 ≤ n) (hf : ∀ x, f x ≤ (T : Int)) : 0 ≤ crowd n (rkC n T C) f ∧ crowd n (rkC n T C) f ≤ (n.toNat * T : Nat) * (n.toNat * T : Nat) := by
  have up : ∀ x, 0 ≤ upTo (rkC n T C) x (f x) ∧ upTo (rkC n T C) x (f x) ≤ (T : Int) * (n.toNat * T : Nat) := fun x => by
    unfold upTo
    rw [rkC_row]
    have := sum_bnd (N := (n.toNat * T : Nat)) (by omega) (l := ((ixr C x).map (rk n T C)).take (f x).toNat) fun v hv => by
      obtain ⟨w, _, rfl⟩ := List.mem_map.mp (List.mem_of_mem_take hv)
      exact rk_le
    refine ⟨this.1, Int.le_trans this.2 (Int.mul_le_mul_of_nonneg_right ?_ (by omega))⟩
    rw [List.length_take]
    have := hf x
    omega
  unfold crowd
  have := sum_bnd (N := (T : Int) * (n.toNat * T : Nat)) (Int.mul_nonneg (by omega) (by omega)) (l := (rangeI 0 n).map fun x => upTo (rkC n T C) x (f x)) fun v hv => by
    obtain ⟨x, _, rfl⟩ := List.mem_map.mp hv
    exact up x
  refine ⟨this.1, Int.le_trans this.2 ?_⟩
  rw [List.length_map, rng_len, ← Int.mul_assoc, Int.natCast_mul]
  exact Int.le_refl _
def phi (n : Int) (ps : List Pl) (C ch : List (List Int)) : Int := crowd n (rkC n ps.length C) (load ch)
theorem Mv.phi {s e : Int} (A : Nice n ps C) (M : Mv n ps C ch dh s e) : phi n ps C dh < phi n ps C ch := by
  have p1 : (0 : Int) < ps.length := by have := List.length_pos_iff.mpr A.ne; omega
  obtain ⟨hC, room⟩ := A.toSame.room1 (i := 0) (by omega) p1
  have r1 := room s M.s0.1 M.s0.2
  have r2 := room e M.e0.1 M.e0.2
  have ls := M.ls
  have le := M.le
  have len : ∀ x, ((ixr (rkC n ps.length C) x).length) = (ixr C x).length := fun x => by rw [rkC_row, List.length_map]
  have := crowd_move (n := n) (C := rkC n ps.length C) (f := load ch) (g := load dh) M.s0 M.e0 M.ne M.ls.1 M.le.1 (by rw [len]; omega) (by rw [len]; omega) M.ld
  unfold LW.phi
  rw [this, rkC_cost M.ls.1 (by omega), rkC_cost (by omega) (by omega)]
  have hm : cost C e (load ch e + 1) ∈ cells n ps.length C := by
    unfold cells cost ixv
    refine List.mem_flatMap.mpr ⟨e, mem_rangeI.mpr M.e0, ?_⟩
    have l : (load ch e + 1 - 1).toNat < (ixr C e).length := by omega
    rw [List.getElem?_eq_getElem l]
    show (ixr C e)[(load ch e + 1 - 1).toNat] ∈ _
    exact List.mem_take_iff_getElem.mpr ⟨_, by omega, rfl⟩
  have := rk_lt hm M.lt
  omega
/-- no chain lessens the choice's crowd sum -/
structure Fin (n : Int) (ps : List Pl) (C ch : List (List Int)) (K : Int → Stp) (dep : Int → Int → Nat) : Prop where
  c : Chs ps ch
  q : Chns n ps ch K dep
  o : Opt C ch (ssOf ch) K
theorem Fin.fits {K : Int → Stp} {dep : Int → Int → Nat} (A : Nice n ps C) (F : Fin n ps C ch K dep) : Fits n ps C ch (pri C ch (ssOf ch) K) :=
  fits_of_opt A.toSame A.ne A.smo F.c (ee_iff A.smo) (fun _ => mem_ssOf) F.q.chn F.o
theorem Fin.least {K : Int → Stp} {dep : Int → Int → Nat} (A : Nice n ps C) (F : Fin n ps C ch K dep) {d : List (List Int)} (hd : Chs ps d) : crowd n C (load ch) ≤ crowd n C (load d) :=
  fits_least A.toSame A.ne F.c (F.fits A) hd
theorem isNone_tt50 (l : List (List Int)) : isNone (tt l) = false := rfl
def ro11 (n : Int) (ps : List Pl) (ch0 ch : List (List Int)) (y : PyData) : Rho := [some (.d (gmD n ps)), some (.d (tt ch0)), some (.d (tt ch)), some (.d y)]
theorem v_least_from (A : Nice n ps C) (c : Chs ps ch) (hw : n.toNat * ps.length ≤ 900) : ∃ dh K dep, m_least_from [gmD n ps, tt ch] = .ok (tt dh) ∧ Fin n ps C dh K dep := by
  have n0 := A.n0
  have step : ∀ {d : List (List Int)}, Chs ps d → (m_lessened [gmD n ps, tt d] = .ok .none ∧ ∃ K dep, Fin n ps C d K dep) ∨ ∃ d2, m_lessened [gmD n ps, tt d] = .ok (tt d2) ∧ Chs ps d2 ∧ phi n ps C d2 < phi n ps C d := fun {d} hd => by
    obtain ⟨K, dep, Q⟩ := v_chains A.toGame A.smo hd A.ne A.n50 A.z100
    rcases v_lessened A hd Q with ⟨h1, h2⟩ | ⟨d2, s, e, h1, h2, h3⟩
    · exact .inl ⟨h1, K, dep, hd, Q, h2⟩
    · exact .inr ⟨d2, h1, h2, h3.phi A⟩
  have bnd : ∀ {d : List (List Int)}, Chs ps d → 0 ≤ phi n ps C d ∧ phi n ps C d ≤ 810000 := fun {d} hd => by
    have := phi_bnd (C := C) (T := ps.length) (f := load d) n0 fun x => by have := (load_le (ch := d) (x := x)).2; rw [hd.len] at this; exact this
    refine ⟨this.1, Int.le_trans this.2 ?_⟩
    have h : n.toNat * ps.length * (n.toNat * ps.length) ≤ 900 * 900 := Nat.mul_le_mul hw hw
    omega
  have next : ∀ {d : List (List Int)}, Chs ps d → ∃ y, m_lessened [gmD n ps, tt d] = .ok y ∧ ((y = .none ∧ ∃ K dep, Fin n ps C d K dep) ∨ ∃ d2, y = tt d2 ∧ Chs ps d2 ∧ phi n ps C d2 < phi n ps C d) := fun {d} hd => by
    rcases step hd with ⟨h1, h2⟩ | ⟨d2, h1, h2, h3⟩
    · exact ⟨_, h1, .inl ⟨rfl, h2⟩⟩
    · exact ⟨_, h1, .inr ⟨d2, rfl, h2, h3⟩⟩
  obtain ⟨y0, hy0, inv0⟩ := next c
  obtain ⟨m', ρ', e, ⟨d, y, hd, rfl, hm, inv⟩, stop⟩ := while50 (fb := dAsB (dOne (fun d => .ok (.bool (!isNone d))) (dVar 3))) (g := b_least_from_1)
    (fun m ρ => ∃ d y, Chs ps d ∧ ρ = ro11 n ps ch d y ∧ (m : Int) = phi n ps C d ∧ ((y = .none ∧ ∃ K dep, Fin n ps C d K dep) ∨ ∃ d2, y = tt d2 ∧ Chs ps d2 ∧ phi n ps C d2 < phi n ps C d)) (by
      rintro m ρ ⟨d, y, hd, rfl, hm, inv⟩
      rcases inv with ⟨rfl, _⟩ | ⟨d2, rfl, hd2, lt⟩
      · right
        unfold ro11
        simp [isNone]
      · left
        obtain ⟨y2, hy2, inv2⟩ := next hd2
        have b := bnd hd2
        refine ⟨by unfold ro11; simp [isNone_tt50], (phi n ps C d2).toNat, ro11 n ps ch d2 y2, by omega, ?_, d2, y2, hd2, rfl, by omega, inv2⟩
        unfold b_least_from_1 ro11
        simp [hy2])
    1000000 (phi n ps C ch).toNat (ro11 n ps ch ch y0) (by have := bnd c; omega) ⟨ch, y0, c, rfl, by have := bnd c; omega, inv0⟩
  rcases inv with ⟨rfl, K, dep, F⟩ | ⟨d2, rfl, hd2, lt⟩
  · refine ⟨d, K, dep, ?_, F⟩
    show endR (g_least_from [some (.d (gmD n ps)), some (.d (tt ch)), none, none]) = _
    have e1 : g_least_from [some (.d (gmD n ps)), some (.d (tt ch)), none, none] = .rt (tt d) := by
      unfold g_least_from
      have s1 : gSet (dArg m_lessened (dCons (dVar 0) (dCons (dVar 2) dNil))) (.nm 3) [some (.d (gmD n ps)), some (.d (tt ch)), some (.d (tt ch)), none] = .nx (ro11 n ps ch ch y0) := by
        simp [hy0]
        rfl
      show (match gSet (dArg m_lessened (dCons (dVar 0) (dCons (dVar 2) dNil))) (.nm 3) [some (.d (gmD n ps)), some (.d (tt ch)), some (.d (tt ch)), none] with | .nx ρ' => _ | o => o) = _
      rw [s1]
      show (match gWhile (dAsB (dOne (fun d => .ok (.bool (!isNone d))) (dVar 3))) b_least_from_1 (fun _ => 1000000) (ro11 n ps ch ch y0) with | .nx ρ' => gRet (dVar 2) ρ' | o => o) = _
      have e2 : gWhile (dAsB (dOne (fun d => .ok (.bool (!isNone d))) (dVar 3))) b_least_from_1 (fun _ => 1000000) (ro11 n ps ch ch y0) = .nx (ro11 n ps ch d .none) := e
      rw [e2]
      rfl
    rw [e1]
    rfl
  · exfalso
    have : dAsB (dOne (fun d => .ok (.bool (!isNone d))) (dVar 3)) (ro11 n ps ch d (tt d2)) = .ok true := by unfold ro11; simp [isNone_tt50]
    rw [this] at stop
    cases stop
end
end LW
set_option Elab.async false
set_option linter.all false
set_option maxRecDepth 100000
set_option maxHeartbeats 4000000
namespace LW
open PySem PySem.Spec PyProof.Rows L2 PD
theorem rng12 {a b : Int} (a0 : -1000 ≤ a) (a1 : a ≤ 100000) (b0 : -1000 ≤ b) (b1 : b ≤ 90000) : rngA2 [.int a, .int b] = .ok ((rangeI a b).map PyData.int) := by
  have e : rngA2 [.int a, .int b] = .ok (rngD a (b - a).toNat) := if_pos ⟨⟨by omega, by omega, by omega, by omega⟩, by rw [sizeLine_eq]; omega⟩
  rw [e, rngD_eq]
  rfl
theorem cons_of {f : Dn} {g : DnL} {ρ : Rho} {a : PyData} {as : List PyData} (h1 : f ρ = .ok a) (h2 : g ρ = .ok as) : dCons f g ρ = .ok (a :: as) := by rw [ev_cons, h1, R.bind_ok, h2, R.bind_ok]
theorem arg_of {m : List PyData → PD.R PyData} {g : DnL} {ρ : Rho} {as : List PyData} (h : g ρ = .ok as) : dArg m g ρ = m as := by rw [ev_arg, h, R.bind_ok]
theorem two_of {u : PyData → PyData → PD.R PyData} {f g : Dn} {ρ : Rho} {a b : PyData} (h1 : f ρ = .ok a) (h2 : g ρ = .ok b) : dTwo u f g ρ = u a b := by rw [ev_two, h1, R.bind_ok, h2, R.bind_ok]
theorem one_of {u : PyData → PD.R PyData} {f : Dn} {ρ : Rho} {a : PyData} (h1 : f ρ = .ok a) : dOne u f ρ = u a := by rw [ev_one, h1, R.bind_ok]
theorem set_of {f : Dn} {t : Tg} {ρ ρ' : Rho} {d : PyData} (h : f ρ = .ok d) (h2 : t.set d ρ = some ρ') : gSet f t ρ = .nx ρ' := by rw [ev_set, h, oR_ok, h2]; rfl
theorem ret_of {f : Dn} {ρ : Rho} {d : PyData} (h : f ρ = .ok d) : gRet f ρ = .rt d := by rw [ev_ret, h, oR_ok]
theorem seq_of {g h : Sn} {ρ ρ' : Rho} (h1 : g ρ = .nx ρ') : gSeq g h ρ = h ρ' := by rw [ev_seq, h1, seqO_nx]
theorem asB_of {f : Dn} {ρ : Rho} {b : Bool} (h : f ρ = .ok (.bool b)) : dAsB f ρ = .ok b := by rw [ev_asB, h, R.bind_ok]; rfl
theorem if_t {c : DnB} {g h : Sn} {ρ : Rho} (e : c ρ = .ok true) : gIf c g h ρ = g ρ := by rw [ev_ifs, e, oR_ok, if_pos rfl]
theorem if_f {c : DnB} {g h : Sn} {ρ : Rho} (e : c ρ = .ok false) : gIf c g h ρ = h ρ := by rw [ev_ifs, e, oR_ok, if_neg (by decide)]
theorem ife_t {c : DnB} {f g : Dn} {ρ : Rho} (e : c ρ = .ok true) : dIf c f g ρ = f ρ := by rw [ev_if, e, R.bind_ok, if_pos rfl]
theorem ife_f {c : DnB} {f g : Dn} {ρ : Rho} (e : c ρ = .ok false) : dIf c f g ρ = g ρ := by rw [ev_if, e, R.bind_ok, if_neg (by decide)]
theorem bTup_list (xs : List PyData) : bTuple [.list xs] = .ok (.tuple xs) := rfl
def limRow (T : Nat) (lim : Int) : List Int := (rangeI 1 ((T : Int) + 1)).map fun l => if l ≤ lim then 0 else 1
def limC (n : Int) (T : Nat) (lim : Int) : List (List Int) := (rangeI 0 n).map fun _ => limRow T lim
def limP (n : Int) (os : List (List (List Int))) (lim : Int) : List Pl := os.map fun ls => ⟨ls, limC n os.length lim, 1⟩
def osD (n : Int) (os : List (List (List Int))) : PyData := .tuple (os.map (ofr n))
section
variable {n lim : Int} {os : List (List (List Int))}
theorem limRow_len {T : Nat} : (limRow T lim).length = T := by
  unfold limRow
  rw [List.length_map, rangeI_len]
  omega
theorem limC_len {T : Nat} (n0 : 0 ≤ n) : ((limC n T lim).length : Int) = n := by
  unfold limC
  rw [List.length_map, rng_len]
  omega
theorem limC_row {T : Nat} {x : Int} (h0 : 0 ≤ x) (h1 : x < n) : ixr (limC n T lim) x = limRow T lim := by
  unfold ixr limC
  rw [List.getElem?_map, rangeI_get (by omega)]
  rfl
theorem limC_cost {T : Nat} {x k : Int} (h0 : 0 ≤ x) (h1 : x < n) (k1 : 1 ≤ k) (k2 : k ≤ (T : Int)) : cost (limC n T lim) x k = if k ≤ lim then 0 else 1 := by
  unfold cost ixv
  rw [limC_row h0 h1]
  unfold limRow
  rw [List.getElem?_map, rangeI_get (by omega)]
  show (if 1 + ((k - 1).toNat : Int) ≤ lim then (0 : Int) else 1) = _
  rw [show 1 + ((k - 1).toNat : Int) = k by omega]
theorem lim_up (T : Nat) : (limRow T lim).Pairwise (· ≤ ·) := by
  unfold limRow
  rw [List.pairwise_map]
  refine (rangeI_asc _ _).imp fun {a b} h => ?_
  split <;> split <;> omega
structure OsOk (n : Int) (os : List (List (List Int))) : Prop where
  n0 : 0 ≤ n
  n50 : n ≤ 50
  smo : ∀ ls ∈ os, Smooth n ls
  ne : os ≠ []
  lsne : ∀ ls ∈ os, ls ≠ []
  wid : n.toNat * os.length ≤ 900
  z100 : os.length ≤ 100
theorem nice_lim (O : OsOk n os) : Nice n (limP n os lim) (limC n os.length lim) where
  n0 := O.n0
  n1 := by have := O.n50; omega
  good := fun p hp => by obtain ⟨ls, hl, rfl⟩ := List.mem_map.mp hp; exact (O.smo ls hl).good
  rows := fun p hp => by obtain ⟨ls, hl, rfl⟩ := List.mem_map.mp hp; exact limC_len O.n0
  room := fun p hp r hr => by
    rw [sum_one fun p hp => by obtain ⟨ls, hl, rfl⟩ := List.mem_map.mp hp; rfl]
    obtain ⟨ls, hl, rfl⟩ := List.mem_map.mp hp
    obtain ⟨x, _, rfl⟩ := List.mem_map.mp hr
    rw [limRow_len]
    unfold limP
    rw [List.length_map]
    exact Int.le_refl _
  w1 := fun p hp => by obtain ⟨ls, hl, rfl⟩ := List.mem_map.mp hp; exact Int.le_refl _
  one := fun p hp => by obtain ⟨ls, hl, rfl⟩ := List.mem_map.mp hp; rfl
  up := fun p hp r hr => by
    obtain ⟨ls, hl, rfl⟩ := List.mem_map.mp hp
    obtain ⟨x, _, rfl⟩ := List.mem_map.mp hr
    exact lim_up _
  same := fun p hp => by obtain ⟨ls, hl, rfl⟩ := List.mem_map.mp hp; rfl
  smo := fun p hp => by obtain ⟨ls, hl, rfl⟩ := List.mem_map.mp hp; exact O.smo ls hl
  ne := by unfold limP; simpa using O.ne
  n50 := O.n50
  z100 := by unfold limP; rw [List.length_map]; exact O.z100
theorem os_hd (O : OsOk n os) : oIx (osD n os) (.int 0) = .ok (ofr n (os.head O.ne)) := by
  cases os with
  | nil => exact absurd rfl O.ne
  | cons a os =>
    show (match atI ((a :: os).map (ofr n)) 0 with | some d => PD.R.ok d | none => .bad) = _
    rw [atI_get (ofr n) (Int.le_refl 0) (x := a) rfl]
    rfl
theorem os_len : bLen [osD n os] = .ok (.int os.length) := by
  simp [bLen, osD]
theorem v_limited (O : OsOk n os) : m_limited_game [osD n os, .int lim] = .ok (gmD n (limP n os lim)) := by
  show endR (g_limited_game [some (.d (osD n os)), some (.d (.int lim)), none, none, none, none, none]) = _
  have z := O.z100
  have n0 := O.n0
  have n50 := O.n50
  have l1 : bLen [osD n os] = .ok (.int os.length) := os_len
  have rg := rng12 (a := 1) (b := (os.length : Int) + 1) (by omega) (by omega) (by omega) (by omega)
  have h0 := os_hd O
  have h1 : oIx (ofr n (os.head O.ne)) (.int 0) = .ok (.int n) := of_p0 _ _
  have f1 : dRng2 (dCons (dC (.int 1)) (dCons (dTwo oAdd (dArg bLen (dCons (dVar 0) dNil)) (dC (.int 1))) dNil)) [some (.d (osD n os)), some (.d (.int lim)), none, none, none, none, none] = .ok ((rangeI 1 ((os.length : Int) + 1)).map PyData.int) := by
    have e : (dCons (dC (.int 1)) (dCons (dTwo oAdd (dArg bLen (dCons (dVar 0) dNil)) (dC (.int 1))) dNil)) [some (.d (osD n os)), some (.d (.int lim)), none, none, none, none, none] = .ok [.int 1, .int ((os.length : Int) + 1)] := by
      simp only [ev_cons, ev_nil, ev_c, ev_two, ev_arg, ev_var, List.getElem?_cons_zero, varR_d, R.bind_ok, l1, oAdd_int]
    unfold dRng2
    rw [e, R.bind_ok, rg]
  have r1 := lc_of (enc := PyData.int) (fi := dRng2 (dCons (dC (.int 1)) (dCons (dTwo oAdd (dArg bLen (dCons (dVar 0) dNil)) (dC (.int 1))) dNil))) (t := .nm 4) (ft := dYes) (fe := dIf (dAsB (dTwo oLe (dVar 4) (dVar 1))) (dC (.int 0)) (dC (.int 1))) (vs := [4]) (ρ := [some (.d (osD n os)), some (.d (.int lim)), none, none, none, none, none]) (xs := rangeI 1 ((os.length : Int) + 1)) (st := fun x => [some (.d (osD n os)), some (.d (.int lim)), none, none, some (.d (.int x)), none, none]) (q := fun _ => true) (g := fun l => PyData.int (if l ≤ lim then 0 else 1)) f1 (fun x _ => ⟨rfl, rfl, fun _ => by
    by_cases c : x ≤ lim
    · simp [c]
    · simp [c]⟩)
  rw [List.filter_eq_self.mpr (fun _ _ => rfl)] at r1
  have r2 := lc_of (enc := PyData.int) (fi := dRng1 (dCons (dTwo oIx (dTwo oIx (dVar 0) (dC (.int 0))) (dC (.int 0))) dNil)) (t := .nm 5) (ft := dYes) (fe := dVar 2) (vs := [5]) (ρ := [some (.d (osD n os)), some (.d (.int lim)), some (.d (tu (limRow os.length lim))), none, none, none, none]) (xs := rangeI 0 n) (st := fun x => [some (.d (osD n os)), some (.d (.int lim)), some (.d (tu (limRow os.length lim))), none, none, some (.d (.int x)), none]) (q := fun _ => true) (g := fun _ => tu (limRow os.length lim)) (by simp [h0, h1, rngA1_ok (n := n) (by omega) (by omega), -List.map_map]) (fun x _ => ⟨rfl, rfl, fun _ => rfl⟩)
  rw [List.filter_eq_self.mpr (fun _ _ => rfl)] at r2
  have r3 := lc_of (enc := ofr n) (fi := dItems (dVar 0)) (t := .nm 6) (ft := dYes) (fe := dTup (dCons (dVar 6) (dCons (dVar 3) dNil))) (vs := [6]) (ρ := [some (.d (osD n os)), some (.d (.int lim)), some (.d (tu (limRow os.length lim))), some (.d (tt (limC n os.length lim))), none, none, none]) (xs := os) (st := fun x => [some (.d (osD n os)), some (.d (.int lim)), some (.d (tu (limRow os.length lim))), some (.d (tt (limC n os.length lim))), none, none, some (.d (ofr n x))]) (q := fun _ => true) (g := fun ls => tkD n ⟨ls, limC n os.length lim, 1⟩) rfl (fun x _ => ⟨rfl, rfl, fun _ => rfl⟩)
  rw [List.filter_eq_self.mpr (fun _ _ => rfl)] at r3
  have t1 : bTuple [.list ((rangeI 1 ((os.length : Int) + 1)).map fun l => PyData.int (if l ≤ lim then 0 else 1))] = .ok (tu (limRow os.length lim)) := by
    rw [bTup_list, tu_eq', limRow]
  have t2 : bTuple [.list ((rangeI 0 n).map fun _ => tu (limRow os.length lim))] = .ok (tt (limC n os.length lim)) := by
    rw [bTup_list, tt_eq', limC]
  have t3 : bTuple [.list (os.map fun ls => tkD n ⟨ls, limC n os.length lim, 1⟩)] = .ok (gmD n (limP n os lim)) := by
    rw [bTup_list]
    show PD.R.ok (PyData.tuple _) = PD.R.ok (PyData.tuple ((limP n os lim).map (tkD n)))
    unfold limP
    rw [List.map_map]
    rfl
  unfold g_limited_game
  have s1 : gSet (dArg bTuple (dCons (dLc (dRng2 (dCons (dC (.int 1)) (dCons (dTwo oAdd (dArg bLen (dCons (dVar 0) dNil)) (dC (.int 1))) dNil))) (.nm 4) dYes (dIf (dAsB (dTwo oLe (dVar 4) (dVar 1))) (dC (.int 0)) (dC (.int 1))) [4]) dNil)) (.nm 2) [some (.d (osD n os)), some (.d (.int lim)), none, none, none, none, none] = .nx [some (.d (osD n os)), some (.d (.int lim)), some (.d (tu (limRow os.length lim))), none, none, none, none] := by
    rw [ev_set, ev_arg, ev_cons, r1, R.bind_ok, ev_nil, R.bind_ok, R.bind_ok, t1]
    rfl
  have s2 : gSet (dArg bTuple (dCons (dLc (dRng1 (dCons (dTwo oIx (dTwo oIx (dVar 0) (dC (.int 0))) (dC (.int 0))) dNil)) (.nm 5) dYes (dVar 2) [5]) dNil)) (.nm 3) [some (.d (osD n os)), some (.d (.int lim)), some (.d (tu (limRow os.length lim))), none, none, none, none] = .nx [some (.d (osD n os)), some (.d (.int lim)), some (.d (tu (limRow os.length lim))), some (.d (tt (limC n os.length lim))), none, none, none] := by
    rw [ev_set, ev_arg, ev_cons, r2, R.bind_ok, ev_nil, R.bind_ok, R.bind_ok, t2]
    rfl
  rw [ev_seq, s1, seqO_nx, ev_seq, s2, seqO_nx, ev_ret, ev_arg, ev_cons, r3, R.bind_ok, ev_nil, R.bind_ok, R.bind_ok, t3]
  rfl
def firstL (os : List (List (List Int))) : List (List Int) := os.map fun ls => ixr ls 0
theorem v_first_lots (O : OsOk n os) : m_first_lots [osD n os] = .ok (tt (firstL os)) := by
  show endR (g_first_lots [some (.d (osD n os)), none, none]) = _
  have r := lc_of (enc := ofr n) (fi := dItems (dVar 0)) (t := .tp [(.nm 1), (.nm 2)]) (ft := dYes) (fe := dTwo oIx (dVar 2) (dC (.int 0))) (vs := [1, 2]) (ρ := [some (.d (osD n os)), none, none]) (xs := os) (st := fun ls => [some (.d (osD n os)), some (.d (.int n)), some (.d (tt ls))]) (q := fun _ => true) (g := fun ls => tu (ixr ls 0)) rfl (fun ls hl => ⟨set_tp2 1 2 (.int n) (tt ls) _, rfl, fun _ => by
    have e : oIx (tt ls) (.int 0) = .ok (tu (ixr ls 0)) := by
      have hl := List.length_pos_iff.mpr (O.lsne ls hl)
      unfold ixr
      rw [oIx_tt (Int.le_refl 0) (List.getElem?_eq_getElem (i := (0 : Int).toNat) (l := ls) hl), List.getElem?_eq_getElem (i := (0 : Int).toNat) (l := ls) hl]
      rfl
    simp [e]⟩)
  rw [List.filter_eq_self.mpr (fun _ _ => rfl)] at r
  unfold g_first_lots
  rw [ev_ret, ev_arg, ev_cons, r, R.bind_ok, ev_nil, R.bind_ok, R.bind_ok]
  have t : bTuple [.list (os.map fun ls => tu (ixr ls 0))] = .ok (tt (firstL os)) := by
    rw [bTup_list, tt_eq', firstL]
  rw [t]
  rfl
theorem plx_lim {i : Int} (i0 : 0 ≤ i) (i1 : i < (os.length : Int)) : ∃ ls ∈ os, plx (limP n os lim) i = ⟨ls, limC n os.length lim, 1⟩ ∧ os[i.toNat]? = some ls := by
  have hl : i.toNat < os.length := by omega
  refine ⟨os[i.toNat], List.getElem_mem hl, ?_, List.getElem?_eq_getElem hl⟩
  unfold plx limP
  rw [List.getElem?_map, List.getElem?_eq_getElem hl]
  rfl
theorem first_chs50 (O : OsOk n os) : Chs (limP n os lim) (firstL os) where
  len := by unfold firstL limP; rw [List.length_map, List.length_map]
  mem := fun i i0 i1 => by
    unfold limP at i1
    rw [List.length_map] at i1
    obtain ⟨ls, hl, e, e2⟩ := plx_lim (n := n) (lim := lim) i0 i1
    rw [e]
    show ixr (firstL os) i ∈ ls
    unfold firstL
    have hn := List.length_pos_iff.mpr (O.lsne ls hl)
    have : ixr (os.map fun ls => ixr ls 0) i = ixr ls 0 := by
      show ((os.map fun ls => ixr ls 0)[i.toNat]?).getD [] = _
      rw [List.getElem?_map, e2]
      rfl
    rw [this]
    unfold ixr
    rw [List.getElem?_eq_getElem (i := (0 : Int).toNat) (l := ls) hn]
    exact List.getElem_mem hn
theorem v_least_crowded (O : OsOk n os) {ch : List (List Int)} (c : Chs (limP n os lim) ch) : ∃ dh K dep, m_least_crowded [osD n os, .int lim, tt ch] = .ok (tt dh) ∧ LW.Fin n (limP n os lim) (limC n os.length lim) dh K dep := by
  obtain ⟨dh, K, dep, e, F⟩ := v_least_from (nice_lim (lim := lim) O) c (by unfold limP; rw [List.length_map]; exact O.wid)
  refine ⟨dh, K, dep, ?_, F⟩
  show endR (g_least_crowded [some (.d (osD n os)), some (.d (.int lim)), some (.d (tt ch))]) = _
  unfold g_least_crowded
  rw [ev_ret]
  have e1 : (dArg m_least_from (dCons (dArg m_limited_game (dCons (dVar 0) (dCons (dVar 1) dNil))) (dCons (dVar 2) dNil))) [some (.d (osD n os)), some (.d (.int lim)), some (.d (tt ch))] = .ok (tt dh) := by
    rw [arg_of (cons_of ((arg_of (cons_of rfl (cons_of rfl rfl))).trans (v_limited O)) (cons_of rfl rfl)), e]
  rw [e1]
  rfl
end
end LW
set_option Elab.async false
set_option linter.all false
set_option maxRecDepth 100000
set_option maxHeartbeats 4000000
namespace LW
open PySem PySem.Spec PyProof.Rows L2 PD
section
variable {n lim : Int} {os ch : List (List (List Int))} {K : Int → Stp} {dep : Int → Int → Nat}
theorem v_diff50 (a b : List Int) : m_difference [tu a, li b] = .ok (tu (a.filter fun x => !decide (x ∈ b))) := by
  show endR (g_difference [some (.d (tu a)), some (.d (li b)), none]) = _
  have r := lc_of (enc := PyData.int) (fi := dItems (dVar 0)) (t := .nm 2) (ft := dAsB (dTwo oNotIn (dVar 2) (dVar 1))) (fe := dVar 2) (vs := [2]) (ρ := [some (.d (tu a)), some (.d (li b)), none]) (xs := a) (st := fun x => [some (.d (tu a)), some (.d (li b)), some (.d (.int x))]) (q := fun x => !decide (x ∈ b)) (g := PyData.int) rfl (fun x _ => ⟨rfl, asB_of ((two_of rfl rfl).trans (oNotIn_li x b)), fun _ => rfl⟩)
  unfold g_difference
  rw [ret_of (d := tu (a.filter fun x => !decide (x ∈ b))) (by rw [arg_of (cons_of r rfl)]; exact bTuple_li _)]
  rfl
end
section
variable {n lim : Int} {os : List (List (List Int))} {ch : List (List Int)} {K : Int → Stp} {dep : Int → Int → Nat}
def over (n lim : Int) (ch : List (List Int)) : List Int := (rangeI 0 n).filter fun t => decide (lim < load ch t)
def rch (n lim : Int) (ch : List (List Int)) (K : Int → Stp) : List Int := (over n lim ch).flatMap fun s => keyS (K s)
def barX (n lim : Int) (ch : List (List Int)) (K : Int → Stp) : List Int := (rangeI 0 n).filter fun t => !decide (t ∈ rch n lim ch K)
def barD (n lim : Int) (ch : List (List Int)) (K : Int → Stp) : PyData := if over n lim ch = [] then .none else tu (barX n lim ch K)
theorem over_ss (h0 : 0 ≤ lim) {s : Int} (h : s ∈ over n lim ch) : s ∈ ssOf ch := by
  obtain ⟨_, h2⟩ := List.mem_filter.mp h
  have : lim < load ch s := of_decide_eq_true h2
  exact mem_ssOf.mpr (load_pos.mp (by omega))
theorem v_bar_behind (O : OsOk n os) (h0 : 0 ≤ lim) (F : LW.Fin n (limP n os lim) (limC n os.length lim) ch K dep) : m_bar_behind [osD n os, .int lim, tt ch] = .ok (barD n lim ch K) := by
  have n0 := O.n0
  have n50 := O.n50
  have A := nice_lim (lim := lim) O
  have e3 := v_limited (lim := lim) O
  have e4 := F.q.run
  have el := v_loads n (limP n os lim) ch A.toGame F.c
  rw [if_neg A.ne] at el
  have oh := os_hd O
  have oh2 : oIx (ofr n (os.head O.ne)) (.int 0) = .ok (.int n) := of_p0 _ _
  generalize gmD n (limP n os lim) = gm at e3 e4 el
  generalize osD n os = od at e3 oh ⊢
  have r5 := lc_of (enc := fun t : Int => PyData.tuple [.int t, .int (load ch t)]) (fi := dEnum (dCons (dArg m_loads (dCons (dVar 3) (dCons (dVar 2) dNil))) dNil)) (t := .tp [(.nm 7), (.nm 8)]) (ft := dAsB (dTwo oGt (dVar 8) (dVar 1))) (fe := dVar 7) (vs := [7, 8]) (ρ := [some (.d od), some (.d (.int lim)), some (.d (tt ch)), some (.d gm), some (.d (chD (ssOf ch) K)), none, none, none, none, none]) (xs := rangeI 0 n) (st := fun t => [some (.d od), some (.d (.int lim)), some (.d (tt ch)), some (.d gm), some (.d (chD (ssOf ch) K)), none, none, some (.d (.int t)), some (.d (.int (load ch t))), none]) (q := fun t => decide (lim < load ch t)) (g := PyData.int) (by
      have a : (dCons (dArg m_loads (dCons (dVar 3) (dCons (dVar 2) dNil))) dNil) [some (.d od), some (.d (.int lim)), some (.d (tt ch)), some (.d gm), some (.d (chD (ssOf ch) K)), none, none, none, none, none] = .ok [tu ((rangeI 0 n).map (load ch))] := cons_of ((arg_of (cons_of rfl (cons_of rfl rfl))).trans el) rfl
      show ((dCons (dArg m_loads (dCons (dVar 3) (dCons (dVar 2) dNil))) dNil) _ >>= enumA) = _
      rw [a, R.bind_ok, enumA_1, items_tu, R.bind_ok, enumF_map50 PyData.int (load ch) n]) (fun t _ => ⟨set_tp2 7 8 _ _ _, asB_of ((two_of rfl rfl).trans (oGt_int _ _)), fun _ => rfl⟩)
  have r6 := lc2_of (enc := PyData.int) (fi := dItems (dVar 5)) (t := .nm 9) (ft := dYes) (fi1 := dKeysK (dTwo oDix (dVar 4) (dVar 9))) (t1 := .nm 7) (ft1 := dYes) (fe := dVar 7) (vs := [9, 7]) (vs1 := [7]) (ρ := [some (.d od), some (.d (.int lim)), some (.d (tt ch)), some (.d gm), some (.d (chD (ssOf ch) K)), some (.d (li (over n lim ch))), none, none, none, none]) (xs := over n lim ch) (st := fun s => [some (.d od), some (.d (.int lim)), some (.d (tt ch)), some (.d gm), some (.d (chD (ssOf ch) K)), some (.d (li (over n lim ch))), none, none, none, some (.d (.int s))]) (q := fun _ => true) (es := fun s => (keyS (K s)).map .int) (ys := fun s => (keyS (K s)).map .int) rfl (fun s hs => ⟨rfl, rfl, fun _ => ⟨by
      show (oDix (chD (ssOf ch) K) (.int s) >>= keysK) = _
      have ss := over_ss h0 hs
      rw [dix_chD ss, R.bind_ok, keys_stp (by have := F.q.len s ss; omega)], by
      have r := lcGo_of (enc := PyData.int) (t := .nm 7) (ft := dYes) (fe := dVar 7) (ρ := wipeR [some (.d od), some (.d (.int lim)), some (.d (tt ch)), some (.d gm), some (.d (chD (ssOf ch) K)), some (.d (li (over n lim ch))), none, none, none, some (.d (.int s))] [7]) (xs := keyS (K s)) (st := fun t => [some (.d od), some (.d (.int lim)), some (.d (tt ch)), some (.d gm), some (.d (chD (ssOf ch) K)), some (.d (li (over n lim ch))), none, some (.d (.int t)), none, some (.d (.int s))]) (q := fun _ => true) (g := PyData.int) (fun t _ => ⟨rfl, rfl, fun _ => rfl⟩)
      rw [r, List.filter_eq_self.mpr (fun _ _ => rfl)]⟩⟩) (by
      have h1 := flat_le (f := fun s => (keyS (K s)).map PyData.int) (k := 50) (l := (over n lim ch).filter fun _ => true) fun s hs => by
        have ss := over_ss h0 (List.mem_filter.mp hs).1
        have := F.q.len s ss
        rw [List.length_map]
        unfold keyS
        rw [List.length_map]
        omega
      have h2 := List.length_filter_le (fun _ => true) (over n lim ch)
      have h3 : (over n lim ch).length ≤ n.toNat := by
        have := List.length_filter_le (fun t => decide (lim < load ch t)) (rangeI 0 n)
        rw [rng_len] at this
        exact this
      have h4 : ((over n lim ch).filter fun _ => true).length * 50 ≤ 50 * 50 := Nat.mul_le_mul (by omega) (Nat.le_refl _)
      omega)
  rw [List.filter_eq_self.mpr (fun _ _ => rfl), show ((over n lim ch).flatMap fun s => (keyS (K s)).map PyData.int) = (rch n lim ch K).map PyData.int from by unfold rch; rw [List.map_flatMap]] at r6
  have i7 : m_difference [tu (rangeI 0 n), li (rch n lim ch K)] = .ok (tu (barX n lim ch K)) := v_diff50 _ _
  have rg : bTupR1 (.int n) = .ok (tu (rangeI 0 n)) := bTupR1_ok (by unfold rgOk; simp [sizeLine_eq]; omega)
  show endR (g_bar_behind [some (.d od), some (.d (.int lim)), some (.d (tt ch)), none, none, none, none, none, none, none]) = _
  unfold g_bar_behind
  rw [seq_of (set_of (t := .nm 3) ((arg_of (cons_of rfl (cons_of rfl rfl))).trans e3) (set_nm _ _ _))]
  simp only [List.set_cons_succ, List.set_cons_zero]
  rw [seq_of (set_of (t := .nm 4) (ρ := [some (.d od), some (.d (.int lim)), some (.d (tt ch)), some (.d gm), none, none, none, none, none, none]) ((arg_of (cons_of rfl (cons_of rfl rfl))).trans e4) (set_nm _ _ _))]
  simp only [List.set_cons_succ, List.set_cons_zero]
  rw [seq_of (set_of (t := .nm 5) r5 (set_nm _ _ _))]
  simp only [List.set_cons_succ, List.set_cons_zero]
  unfold barD
  have l5 : ∀ a : List Int, bLen [li a] = .ok (.int a.length) := bLen_li
  have c5 : dAsB (dTwo oEq (dArg bLen (dCons (dVar 5) dNil)) (dC (.int 0))) [some (.d od), some (.d (.int lim)), some (.d (tt ch)), some (.d gm), some (.d (chD (ssOf ch) K)), some (.d (li (over n lim ch))), none, none, none, none] = .ok ((((over n lim ch).length : Nat) : Int) == 0) := asB_of ((two_of ((arg_of (cons_of rfl rfl)).trans (l5 _)) rfl).trans (oEq_int _ _))
  by_cases he : over n lim ch = []
  · rw [if_pos he]
    have e0 : ((((over n lim ch).length : Nat) : Int) == 0) = true := by rw [he]; rfl
    rw [e0] at c5
    have sk : gIf (dAsB (dTwo oEq (dArg bLen (dCons (dVar 5) dNil)) (dC (.int 0)))) (gRet (dC .none)) gSkip [some (.d od), some (.d (.int lim)), some (.d (tt ch)), some (.d gm), some (.d (chD (ssOf ch) K)), some (.d (li (over n lim ch))), none, none, none, none] = .rt .none := (if_t c5).trans rfl
    exact (congrArg endR ((ev_seq _ _ _).trans (congrArg (fun o => seqO o _) sk))).trans rfl
  · rw [if_neg he]
    have ne : ((((over n lim ch).length : Nat) : Int) == 0) = false := by
      have := List.length_pos_iff.mpr he
      rw [beq_eq_false_iff_ne]
      omega
    rw [ne] at c5
    have := if_f (g := gRet (dC .none)) (h := gSkip) c5
    have sk : gIf (dAsB (dTwo oEq (dArg bLen (dCons (dVar 5) dNil)) (dC (.int 0)))) (gRet (dC .none)) gSkip [some (.d od), some (.d (.int lim)), some (.d (tt ch)), some (.d gm), some (.d (chD (ssOf ch) K)), some (.d (li (over n lim ch))), none, none, none, none] = .nx [some (.d od), some (.d (.int lim)), some (.d (tt ch)), some (.d gm), some (.d (chD (ssOf ch) K)), some (.d (li (over n lim ch))), none, none, none, none] := this
    have ex := seq_of (h := (gSeq (gSet (dLc2 (dItems (dVar 5)) (.nm 9) dYes (dKeysK (dTwo oDix (dVar 4) (dVar 9))) (.nm 7) dYes (dVar 7) [9, 7] [7]) (.nm 6)) (gRet (dArg m_difference (dCons (dOne bTupR1 (dTwo oIx (dTwo oIx (dVar 0) (dC (.int 0))) (dC (.int 0)))) (dCons (dVar 6) dNil)))))) sk
    refine (congrArg endR ex).trans ?_
    rw [seq_of (set_of (t := .nm 6) r6 (set_nm _ _ _))]
    simp only [List.set_cons_succ, List.set_cons_zero]
    rw [ret_of (d := tu (barX n lim ch K))]
    · rfl
    · refine (arg_of (cons_of ((one_of ((two_of ((two_of rfl rfl).trans oh) rfl).trans oh2)).trans rg) (cons_of rfl rfl))).trans i7
theorem opt_lim (O : OsOk n os) (h0 : 0 ≤ lim) (F : LW.Fin n (limP n os lim) (limC n os.length lim) ch K dep) {s t : Int} (hs : s ∈ over n lim ch) (ht : t ∈ keyS (K s)) : lim ≤ load ch t := by
  have A := nice_lim (lim := lim) O
  have ss := over_ss h0 hs
  obtain ⟨hr, hl⟩ := List.mem_filter.mp hs
  have hl : lim < load ch s := of_decide_eq_true hl
  by_cases e : t = s
  · subst e; omega
  · have o := F.o s ss t ht e
    obtain ⟨s0, s1⟩ := mem_rangeI.mp hr
    obtain ⟨t0, t1⟩ := F.q.rng s ss t ht
    have l1 := load_le (ch := ch) (x := s)
    have l2 := load_le (ch := ch) (x := t)
    have kl := key_lt A F.c F.q ss ht e
    have cl := F.c.len
    unfold limP at cl kl
    rw [List.length_map] at cl kl
    rw [limC_cost s0 s1 (by omega) (by omega), limC_cost t0 t1 (by omega) (by omega), if_neg (by omega)] at o
    by_cases c : load ch t + 1 ≤ lim
    · rw [if_pos c] at o; omega
    · omega
end
end LW
set_option Elab.async false
set_option maxRecDepth 100000
set_option linter.all false
set_option maxHeartbeats 4000000
set_option Elab.async false
set_option maxRecDepth 100000
set_option linter.all false
set_option maxHeartbeats 2000000
set_option Elab.async false
set_option maxRecDepth 100000
set_option linter.all false
set_option maxHeartbeats 2000000
namespace LW
open PySem PySem.Spec PyProof.Rows L2 PD
def up (n : Int) (b : List Int) : List Int := b.map fun x => n + x
end LW
set_option Elab.async false
set_option linter.all false
set_option maxRecDepth 100000
set_option maxHeartbeats 4000000
namespace LW
open PySem PySem.Spec PyProof.Rows L2 PD
theorem or_ff {f g : DnB} {ρ : Rho} (h1 : f ρ = .ok false) (h2 : g ρ = .ok false) : dOr f g ρ = .ok false := by rw [ev_or, h1, R.bind_ok, if_neg (by decide), h2]
theorem not_of {f : DnB} {ρ : Rho} {b : Bool} (h : f ρ = .ok b) : dNot f ρ = .ok (!b) := by rw [ev_not, h, R.bind_ok]
def fitL (n lim : Int) (r : List (List Int)) : Bool := ((rangeI 0 n).map (load r)).all fun v => decide (v ≤ lim)
theorem fitL_iff {n lim : Int} {r : List (List Int)} : fitL n lim r = true ↔ ∀ t, 0 ≤ t → t < n → load r t ≤ lim := by
  unfold fitL
  rw [List.all_eq_true]
  constructor
  · intro h t t0 t1
    exact of_decide_eq_true (h _ (List.mem_map.mpr ⟨t, mem_rangeI.mpr ⟨t0, t1⟩, rfl⟩))
  · intro h v hv
    obtain ⟨t, ht, rfl⟩ := List.mem_map.mp hv
    obtain ⟨t0, t1⟩ := mem_rangeI.mp ht
    exact decide_eq_true (h t t0 t1)
def Pick : List (List Int) → List (List (List Int)) → Prop
  | [], [] => True
  | l :: t, ls :: os => l ∈ ls ∧ Pick t os
  | _, _ => False
section
variable {n lim : Int}
theorem pick_get : ∀ {d : List (List Int)} {os : List (List (List Int))}, Pick d os ↔ d.length = os.length ∧ ∀ (i : Nat) l ls, d[i]? = some l → os[i]? = some ls → l ∈ ls
  | [], [] => ⟨fun _ => ⟨rfl, fun i l ls h => by simp at h⟩, fun _ => trivial⟩
  | [], _ :: _ => ⟨fun h => h.elim, fun h => by simp at h⟩
  | _ :: _, [] => ⟨fun h => h.elim, fun h => by simp at h⟩
  | l :: t, ls :: os => by
    have ih := pick_get (d := t) (os := os)
    constructor
    · rintro ⟨h1, h2⟩
      obtain ⟨h3, h4⟩ := ih.mp h2
      refine ⟨by simp [h3], fun i a as ha hs => ?_⟩
      cases i with
      | zero => simp at ha hs; subst ha hs; exact h1
      | succ i => simp at ha hs; exact h4 i a as ha hs
    · rintro ⟨h1, h2⟩
      exact ⟨h2 0 l ls rfl rfl, ih.mpr ⟨by simpa using h1, fun i a as ha hs => h2 (i + 1) a as (by simpa using ha) (by simpa using hs)⟩⟩
theorem chs_pick {d : List (List Int)} {os : List (List (List Int))} : Chs (limP n os lim) d ↔ Pick d os := by
  rw [pick_get]
  have ll : (limP n os lim).length = os.length := by unfold limP; rw [List.length_map]
  constructor
  · intro c
    refine ⟨by rw [c.len, ll], fun i l ls hl hs => ?_⟩
    have h1 : i < os.length := (List.getElem?_eq_some_iff.mp hs).1
    have := c.mem (i : Int) (by omega) (by rw [ll]; omega)
    obtain ⟨ls', hm, e, e2⟩ := plx_lim (n := n) (lim := lim) (os := os) (i := (i : Int)) (by omega) (by omega)
    rw [e] at this
    have hs2 : os[((i : Int)).toNat]? = some ls := by rw [show ((i : Int)).toNat = i by omega]; exact hs
    rw [hs2] at e2
    cases e2
    have : ixr d (i : Int) ∈ ls := this
    unfold ixr at this
    rw [show ((i : Int)).toNat = i by omega, hl] at this
    exact this
  · rintro ⟨h1, h2⟩
    refine ⟨by rw [h1, ll], fun i i0 i1 => ?_⟩
    rw [ll] at i1
    obtain ⟨ls', hm, e, e2⟩ := plx_lim (n := n) (lim := lim) (os := os) i0 i1
    rw [e]
    have hl : i.toNat < d.length := by omega
    unfold ixr
    rw [List.getElem?_eq_getElem hl]
    exact h2 i.toNat _ _ (List.getElem?_eq_getElem hl) e2
end
end LW
set_option Elab.async false
set_option linter.all false
set_option maxRecDepth 100000
set_option maxHeartbeats 4000000
namespace LW
open PySem PySem.Spec PyProof.Rows L2 PD
section
variable {n lim : Int}
def CanB (n lim : Int) (os : List (List (List Int))) : Prop := ∃ d, Chs (limP n os lim) d ∧ fitL n lim d = true
theorem v_apart {os : List (List (List Int))} (O : OsOk n os) (h0 : 0 ≤ lim) : ∃ dh K dep, LW.Fin n (limP n os lim) (limC n os.length lim) dh K dep ∧ m_apart [osD n os, .int lim] = .ok (if over n lim dh = [] then tt dh else .none) := by
  have e1 := v_first_lots O
  obtain ⟨dh, K, dep, e2, F⟩ := v_least_crowded (lim := lim) O (first_chs50 O)
  have e3 := v_bar_behind O h0 F
  refine ⟨dh, K, dep, F, ?_⟩
  show endR (g_apart [some (.d (osD n os)), some (.d (.int lim)), none]) = _
  unfold g_apart
  rw [seq_of (set_of (t := .nm 2) ((arg_of (cons_of rfl (cons_of rfl (cons_of ((arg_of (cons_of rfl rfl)).trans e1) rfl)))).trans e2) (set_nm _ _ _))]
  simp only [List.set_cons_succ, List.set_cons_zero]
  have e4 : dOne (fun d => .ok (.bool (isNone d))) (dArg m_bar_behind (dCons (dVar 0) (dCons (dVar 1) (dCons (dVar 2) dNil)))) [some (.d (osD n os)), some (.d (.int lim)), some (.d (tt dh))] = .ok (.bool (isNone (barD n lim dh K))) := one_of ((arg_of (cons_of rfl (cons_of rfl (cons_of rfl rfl)))).trans e3)
  by_cases h : over n lim dh = []
  · have hb : barD n lim dh K = .none := by unfold barD; rw [if_pos h]
    rw [hb] at e4
    have e5 := ife_t (f := dVar 2) (g := dC .none) (asB_of (b := true) e4)
    rw [if_pos h, ret_of (e5.trans rfl)]
    rfl
  · have hb : barD n lim dh K = tu (barX n lim dh K) := by unfold barD; rw [if_neg h]
    rw [hb] at e4
    have e5 := ife_f (f := dVar 2) (g := dC .none) (asB_of (b := false) e4)
    rw [if_neg h, ret_of (e5.trans rfl)]
    rfl
theorem over_nil {ch : List (List Int)} : over n lim ch = [] ↔ fitL n lim ch = true := by
  rw [fitL_iff]
  unfold over
  rw [List.filter_eq_nil_iff]
  constructor
  · intro h t t0 t1
    have := h t (mem_rangeI.mpr ⟨t0, t1⟩)
    simpa using this
  · intro h t ht
    obtain ⟨t0, t1⟩ := mem_rangeI.mp ht
    have := h t t0 t1
    simpa using this
/-- the crowd sum tells how far the loads go beyond the limit -/
theorem crowd_lim {T : Nat} {f : Int → Int} (n0 : 0 ≤ n) (h0 : 0 ≤ lim) (hf : ∀ t, 0 ≤ f t ∧ f t ≤ (T : Int)) : ((∀ t, 0 ≤ t → t < n → f t ≤ lim) → crowd n (limC n T lim) f = 0) ∧ ∀ t, 0 ≤ t → t < n → lim < f t → 0 < crowd n (limC n T lim) f := by
  have row : ∀ x, 0 ≤ x → x < n → ∀ v ∈ (ixr (limC n T lim) x), 0 ≤ v ∧ v ≤ 1 := fun x x0 x1 v hv => by
    rw [limC_row x0 x1] at hv
    obtain ⟨l, _, rfl⟩ := List.mem_map.mp hv
    split <;> omega
  have up : ∀ x, 0 ≤ x → x < n → 0 ≤ upTo (limC n T lim) x (f x) := fun x x0 x1 => by
    unfold upTo
    exact (sum_bnd (N := 1) (by decide) fun v hv => row x x0 x1 v (List.mem_of_mem_take hv)).1
  have z : ∀ x, 0 ≤ x → x < n → f x ≤ lim → upTo (limC n T lim) x (f x) = 0 := fun x x0 x1 hl => by
    have := sum_bnd (N := 0) (l := (ixr (limC n T lim) x).take (f x).toNat) (by decide) fun v hv => by
      rw [limC_row x0 x1] at hv
      obtain ⟨j, hj, e⟩ := List.mem_take_iff_getElem.mp hv
      unfold limRow at e hj
      have hj1 := hj
      rw [List.length_map] at hj1
      have hj2 : j < (rangeI 1 ((T : Int) + 1)).length := by omega
      have hj3 := hj2
      rw [rangeI_len] at hj3
      have g := rangeI_get (lo := 1) (hi := (T : Int) + 1) (j := j) (by omega)
      rw [List.getElem?_eq_getElem hj2] at g
      injection g with g
      rw [List.getElem_map, g, if_pos (by omega)] at e
      omega
    unfold upTo
    omega
  refine ⟨fun h => ?_, fun t t0 t1 ht => ?_⟩
  · unfold crowd
    have e : ∀ x ∈ rangeI 0 n, upTo (limC n T lim) x (f x) = 0 := fun x hx => by
      obtain ⟨x0, x1⟩ := mem_rangeI.mp hx
      exact z x x0 x1 (h x x0 x1)
    rw [sum_congr e]
    have := sum_bnd (N := 0) (l := (rangeI 0 n).map fun _ => (0 : Int)) (by decide) fun v hv => by obtain ⟨_, _, rfl⟩ := List.mem_map.mp hv; omega
    omega
  · have e1 : 1 ≤ upTo (limC n T lim) t (f t) := by
      have hl : f t ≤ ((ixr (limC n T lim) t).length : Int) := by rw [limC_row t0 t1, limRow_len]; exact (hf t).2
      have s := upTo_succ (C := limC n T lim) (x := t) (m := f t - 1) (by omega) (by omega)
      rw [show f t - 1 + 1 = f t by omega, limC_cost t0 t1 (by omega) (hf t).2, if_neg (by omega)] at s
      have : 0 ≤ upTo (limC n T lim) t (f t - 1) := by
        unfold upTo
        exact (sum_bnd (N := 1) (by decide) fun v hv => row t t0 t1 v (List.mem_of_mem_take hv)).1
      omega
    unfold crowd
    have le := sum_le (l := rangeI 0 n) (f := fun x => if x ∈ [t] then (1 : Int) else 0) (g := fun x => upTo (limC n T lim) x (f x)) fun x hx => by
      obtain ⟨x0, x1⟩ := mem_rangeI.mp hx
      have := up x x0 x1
      by_cases e : x = t
      · subst e; simp; omega
      · simp [e]; omega
    have a : Asc n [t] := ⟨List.pairwise_singleton .., fun x hx => by rw [List.mem_singleton.mp hx]; exact ⟨t0, t1⟩⟩
    have so := sum_on a (fun _ => (1 : Int))
    simp at so
    have so2 : ((rangeI 0 n).map fun x => if x ∈ [t] then (1 : Int) else 0).sum = 1 := by simpa using so
    omega
theorem apart_iff {os : List (List (List Int))} {dh : List (List Int)} {K : Int → Stp} {dep : Int → Int → Nat} (O : OsOk n os) (h0 : 0 ≤ lim) (F : LW.Fin n (limP n os lim) (limC n os.length lim) dh K dep) : over n lim dh = [] ↔ CanB n lim os := by
  have A := nice_lim (lim := lim) O
  have ll : (limP n os lim).length = os.length := by unfold limP; rw [List.length_map]
  have bnd : ∀ {d : List (List Int)}, Chs (limP n os lim) d → ∀ t, 0 ≤ load d t ∧ load d t ≤ (os.length : Int) := fun {d} c t => by
    have := load_le (ch := d) (x := t)
    rw [c.len, ll] at this
    exact this
  constructor
  · intro h
    exact ⟨dh, F.c, over_nil.mp h⟩
  · rintro ⟨d, hd, hf⟩
    refine Classical.byContradiction fun ne => ?_
    obtain ⟨t, ht⟩ := List.exists_mem_of_ne_nil _ ne
    obtain ⟨h1, h2⟩ := List.mem_filter.mp ht
    obtain ⟨t0, t1⟩ := mem_rangeI.mp h1
    have big := (crowd_lim (T := os.length) O.n0 h0 (bnd F.c)).2 t t0 t1 (of_decide_eq_true h2)
    have small := (crowd_lim (T := os.length) O.n0 h0 (bnd hd)).1 (fitL_iff.mp hf)
    have := F.least A hd
    omega
end
end LW
set_option Elab.async false
set_option maxRecDepth 100000
set_option linter.all false
set_option maxHeartbeats 2000000
set_option Elab.async false
set_option linter.all false
set_option maxRecDepth 100000
set_option maxHeartbeats 4000000
namespace LW
open PySem PySem.Spec PyProof.Rows L2 PD
section
variable {n lim : Int} {os : List (List (List Int))} {d : List (List Int)}
structure OD (n : Int) (os : List (List (List Int))) (D : PyData) : Prop where
  len : bLen [D] = .ok (.int os.length)
  ix : ∀ (i : Int) ls, 0 ≤ i → os[i.toNat]? = some ls → oIx D (.int i) = .ok (ofr n ls)
theorem od_tup : OD n os (osD n os) := ⟨os_len, fun i ls h0 h => by
  show (match atI (os.map (ofr n)) i with | some d => PD.R.ok d | none => .bad) = _
  rw [atI_get (ofr n) h0 h]⟩
theorem v_is_apart (O : OsOk n os) {D : PyData} (od : OD n os D) (c : Chs (limP n os lim) d) : m_law_is_apart [tt d, D, .int lim] = .ok (.bool (fitL n lim d)) := by
  have n0 := O.n0
  have n50 := O.n50
  have z := O.z100
  have ll : (limP n os lim).length = os.length := by unfold limP; rw [List.length_map]
  have dl : d.length = os.length := by rw [c.len, ll]
  show endR (g_law_is_apart [some (.d (tt d)), some (.d D), some (.d (.int lim)), none, none]) = _
  have t1 : oIsi "tuple" (tt d) = .ok (.bool true) := isi_tt d
  have c1 : dOr (dNot (dAsB (dOne (oIsi "tuple") (dVar 0)))) (dAsB (dTwo oNe (dArg bLen (dCons (dVar 0) dNil)) (dArg bLen (dCons (dVar 1) dNil)))) [some (.d (tt d)), some (.d D), some (.d (.int lim)), none, none] = .ok false := by
    refine or_ff (not_of (asB_of ((one_of rfl).trans t1))) (asB_of ((two_of ((arg_of (cons_of rfl rfl)).trans (bLen_tt d)) ((arg_of (cons_of rfl rfl)).trans od.len)).trans ?_))
    rw [oNe_int, dl]
    simp
  have key := forGo_inv (i := 3) (g := b_law_is_apart_1) (enc := PyData.int) (fun xs ρ => ∃ o3 : Option Sl, ρ = [some (.d (tt d)), some (.d D), some (.d (.int lim)), o3, none] ∧ ∀ x ∈ xs, 0 ≤ x ∧ x < (os.length : Int)) (by
    rintro x xs ρ ⟨o3, rfl, hx⟩
    obtain ⟨x0, x1⟩ := hx x List.mem_cons_self
    obtain ⟨ls, hm, e, e2⟩ := plx_lim (n := n) (lim := lim) (os := os) x0 x1
    have m := c.mem x x0 (by rw [ll]; exact x1)
    rw [e] at m
    have m : ixr d x ∈ ls := m
    have a := (O.smo ls hm).good.asc _ m
    have al := a.len
    have i1 : oIx (tt d) (.int x) = .ok (tu (ixr d x)) := by
      have hl : x.toNat < d.length := by omega
      unfold ixr
      rw [oIx_tt x0 (List.getElem?_eq_getElem hl), List.getElem?_eq_getElem hl]; rfl
    have i2 := od.ix x ls x0 e2
    have i3 := v_is_set (ixr d x) n a (by omega)
    have i4 : oNotIn (tu (ixr d x)) (tt ls) = .ok (.bool false) := by
      unfold oNotIn
      rw [if_pos ⟨shp_tu _, shp_tt _⟩, items_tt]
      show PD.R.ok (PyData.bool (!inD (tu (ixr d x)) (ls.map tu))) = _
      rw [inD_tus, decide_eq_true m]
      rfl
    refine ⟨[some (.d (tt d)), some (.d D), some (.d (.int lim)), some (.d (.int x)), none], ?_, _, rfl, fun y hy => hx y (List.mem_cons_of_mem _ hy)⟩
    show b_law_is_apart_1 [some (.d (tt d)), some (.d D), some (.d (.int lim)), some (.d (.int x)), none] = _
    unfold b_law_is_apart_1
    have g1 : dTwo oIx (dVar 0) (dVar 3) [some (.d (tt d)), some (.d D), some (.d (.int lim)), some (.d (.int x)), none] = .ok (tu (ixr d x)) := (two_of rfl rfl).trans i1
    have g2 : dTwo oIx (dVar 1) (dVar 3) [some (.d (tt d)), some (.d D), some (.d (.int lim)), some (.d (.int x)), none] = .ok (ofr n ls) := (two_of rfl rfl).trans i2
    rw [if_f (or_ff (not_of (b := true) (asB_of ((arg_of (cons_of g1 (cons_of ((two_of g2 rfl).trans (of_p0 n ls)) rfl))).trans i3))) (asB_of ((two_of g1 ((two_of g2 rfl).trans (of_p1 n ls))).trans i4)))]
    rfl)
  obtain ⟨ρ', e, o3, rfl, _⟩ := key (rangeI 0 os.length) [some (.d (tt d)), some (.d D), some (.d (.int lim)), none, none] ⟨none, rfl, fun x hx => mem_rangeI.mp hx⟩
  have s2 : gFor (dRng1 (dCons (dArg bLen (dCons (dVar 1) dNil)) dNil)) (.nm 3) b_law_is_apart_1 [some (.d (tt d)), some (.d D), some (.d (.int lim)), none, none] = .nx [some (.d (tt d)), some (.d D), some (.d (.int lim)), o3, none] := by
    have f : dRng1 (dCons (dArg bLen (dCons (dVar 1) dNil)) dNil) [some (.d (tt d)), some (.d D), some (.d (.int lim)), none, none] = .ok ((rangeI 0 os.length).map PyData.int) := by
      show (dCons (dArg bLen (dCons (dVar 1) dNil)) dNil _ >>= rngA1) = _
      rw [cons_of ((arg_of (cons_of rfl rfl)).trans od.len) rfl, R.bind_ok, rngA1_ok (by omega) (by omega)]
    rw [ev_for, f, oR_ok, e]
  obtain ⟨ls0, hm0, _, e20⟩ := plx_lim (n := n) (lim := lim) (os := os) (i := 0) (by decide) (by have := List.length_pos_iff.mpr O.ne; omega)
  have i0 := od.ix 0 ls0 (by decide) e20
  have it : dItems (dArg m_law_loads (dCons (dVar 0) (dCons (dTwo oIx (dTwo oIx (dVar 1) (dC (.int 0))) (dC (.int 0))) dNil))) [some (.d (tt d)), some (.d D), some (.d (.int lim)), o3, none] = .ok (((rangeI 0 n).map (load d)).map PyData.int) := by
    rw [ev_items, (arg_of (cons_of rfl (cons_of ((two_of ((two_of rfl rfl).trans i0) rfl).trans (of_p0 n ls0)) rfl))).trans (v_law_loads d n n0 (by omega)), R.bind_ok, items_li]
  have lc := lc_of (enc := PyData.int) (t := .nm 4) (ft := dYes) (fe := dTwo oLe (dVar 4) (dVar 2)) (vs := [4]) (xs := (rangeI 0 n).map (load d)) (st := fun v => [some (.d (tt d)), some (.d D), some (.d (.int lim)), o3, some (.d (.int v))]) (q := fun _ => true) (g := fun v => PyData.bool (decide (v ≤ lim))) it (fun v _ => ⟨rfl, rfl, fun _ => (two_of rfl rfl).trans (oLe_int _ _)⟩)
  rw [List.filter_eq_self.mpr (fun _ _ => rfl)] at lc
  unfold g_law_is_apart
  have s1 : gIf (dOr (dNot (dAsB (dOne (oIsi "tuple") (dVar 0)))) (dAsB (dTwo oNe (dArg bLen (dCons (dVar 0) dNil)) (dArg bLen (dCons (dVar 1) dNil))))) (gRet (dC (.bool false))) gSkip [some (.d (tt d)), some (.d D), some (.d (.int lim)), none, none] = .nx [some (.d (tt d)), some (.d D), some (.d (.int lim)), none, none] := (if_f c1).trans rfl
  rw [seq_of s1, seq_of s2, ret_of ((arg_of (cons_of lc rfl)).trans (bAll_map _ _))]
  rfl
end
end LW
set_option Elab.async false
set_option linter.all false
set_option maxRecDepth 100000
set_option maxHeartbeats 4000000
namespace LW
open PySem PySem.Spec PyProof.Rows L2 PD
theorem app_of {i : Nat} {f : Dn} {ρ : Rho} {ds : List PyData} {d : PyData} (h : ρ[i]? = some (some (.own ds))) (h1 : f ρ = .ok d) (hz : ds.length ≤ 90000) : gApp i f ρ = .nx (ρ.set i (some (.own (ds ++ [d])))) := by
  rw [ev_app, h, ownA_own, h1, oR_ok, if_pos (line_lt (by omega))]
theorem setAt_of {i : Nat} {fi fe : Dn} {ρ : Rho} {ds : List PyData} {y : PyData} {k : Int} (h : ρ[i]? = some (some (.own ds))) (h1 : fe ρ = .ok y) (h2 : fi ρ = .ok (.int k)) (k0 : 0 ≤ k) (k1 : k < (ds.length : Int)) : gSetAt i fi fe ρ = .nx (ρ.set i (some (.own (ds.set k.toNat y)))) := by
  rw [ev_setAt, h1, oR_ok, h, ownA_own, h2]
  dsimp only
  rw [ixN_ok k0 k1]
theorem and_of {f g : DnB} {ρ : Rho} {a b : Bool} (h1 : f ρ = .ok a) (h2 : g ρ = .ok b) : dAnd f g ρ = .ok (a && b) := by
  rw [ev_and, h1, R.bind_ok]
  cases a
  · rfl
  · rw [if_pos rfl, h2]; rfl
theorem ix_li50 {L : List Int} {i : Int} (h0 : 0 ≤ i) (h1 : i < (L.length : Int)) : oIx (li L) (.int i) = .ok (.int (ixv L i)) := ix_li h0 h1
def ro17 (ns : List Int) (f n cnt : Int) (lss : List (List (List Int))) (o5 : Option Sl) : Rho := [some (.d (li ns)), some (.d (.int f)), some (.d (.int n)), some (.d (.int cnt)), some (.own (lss.map (ofr n))), o5]
theorem v_offers50 (ns : List Int) (f n cnt : Int) (f0 : 0 ≤ f) (h0 : 0 ≤ n) (h1 : n ≤ 9) (c0 : 0 ≤ cnt) (c1 : cnt ≤ 100) : ∃ os, m_law_offers_k50 [li ns, .int f, .int n, .int cnt] = .ok (osD n os) ∧ (os.length : Int) = cnt ∧ ∀ ls ∈ os, Smooth n ls := by
  have key := forGo_inv (i := 5) (g := b_law_offers_k50_1) (enc := PyData.int) (fun xs ρ => ∃ (k : Int) (lss : List (List (List Int))) (o5 : Option Sl), ρ = ro17 ns f n cnt lss o5 ∧ xs = rangeI k cnt ∧ 0 ≤ k ∧ k ≤ cnt ∧ (lss.length : Int) = k ∧ ∀ ls ∈ lss, Smooth n ls) (by
    rintro x xs ρ ⟨k, lss, o5, rfl, hx, k0, k1, hl, hs⟩
    obtain ⟨hk1, rfl, rfl⟩ := rangeI_inv hx
    obtain ⟨c, e1⟩ := v_cell ns (f + x) (by omega)
    obtain ⟨ls, e2, g2⟩ := v_smooth2 c n h0 h1
    obtain ⟨L, e3, hL, bL⟩ := v_draws c 1 (by decide) (by decide)
    have hL2 : L.length = 1 := hL
    have e4 := ix_li50 (L := L) (i := 0) (by decide) (by omega)
    show ∃ ρ', b_law_offers_k50_1 (ro17 ns f n cnt lss (some (.d (.int x)))) = .nx ρ' ∧ _
    have cell : ∀ l, dArg m_law_cell (dCons (dVar 0) (dCons (dTwo oAdd (dVar 1) (dVar 5)) dNil)) (ro17 ns f n cnt l (some (.d (.int x)))) = .ok (.int c) := fun l => (arg_of (cons_of rfl (cons_of ((two_of rfl rfl).trans (oAdd_int f x)) rfl))).trans e1
    have a1 : gApp 4 (dTup (dCons (dVar 2) (dCons (dArg m_law_smooth_lots (dCons (dArg m_law_cell (dCons (dVar 0) (dCons (dTwo oAdd (dVar 1) (dVar 5)) dNil))) (dCons (dVar 2) dNil))) dNil))) (ro17 ns f n cnt lss (some (.d (.int x)))) = .nx (ro17 ns f n cnt (lss ++ [ls]) (some (.d (.int x)))) := by
      have t : dTup (dCons (dVar 2) (dCons (dArg m_law_smooth_lots (dCons (dArg m_law_cell (dCons (dVar 0) (dCons (dTwo oAdd (dVar 1) (dVar 5)) dNil))) (dCons (dVar 2) dNil))) dNil)) (ro17 ns f n cnt lss (some (.d (.int x)))) = .ok (ofr n ls) := by
        have c := cons_of (f := dVar 2) (ρ := ro17 ns f n cnt lss (some (.d (.int x)))) (a := .int n) rfl (cons_of (g := dNil) ((arg_of (cons_of (cell lss) (cons_of (f := dVar 2) (g := dNil) rfl rfl))).trans e2) rfl)
        rw [ev_tup, c, R.bind_ok]
        rfl
      rw [app_of (ds := lss.map (ofr n)) rfl t (by rw [List.length_map]; omega)]
      unfold ro17
      rw [List.map_append]
      rfl
    have cond : ∃ b : Bool, dAnd (dAsB (dTwo oGt (dVar 5) (dC (.int 0)))) (dAsB (dTwo oEq (dTwo oMod (dTwo oDiv (dArg bInt (dCons (dTwo oIx (dArg m_law_draws (dCons (dArg m_law_cell (dCons (dVar 0) (dCons (dTwo oAdd (dVar 1) (dVar 5)) dNil))) (dCons (dC (.int 1)) dNil))) (dC (.int 0))) dNil)) (dC (.int 8))) (dC (.int 4))) (dC (.int 1)))) (ro17 ns f n cnt (lss ++ [ls]) (some (.d (.int x)))) = .ok b := by
      have d1 := (two_of ((arg_of (cons_of (cell (lss ++ [ls])) (cons_of (f := dC (.int 1)) (g := dNil) rfl rfl))).trans e3) (show dC (.int 0) _ = .ok (.int 0) from rfl) (u := oIx)).trans e4
      have d2 := (arg_of (m := bInt) (cons_of d1 (g := dNil) rfl)).trans (bInt_int _)
      have d3 := (two_of d2 (show dC (.int 8) _ = .ok (.int 8) from rfl) (u := oDiv)).trans (oDiv_lit (by decide) (by decide))
      have d4 := (two_of d3 (show dC (.int 4) _ = .ok (.int 4) from rfl) (u := oMod)).trans (oMod_int (by decide))
      have d5 := asB_of ((two_of d4 (show dC (.int 1) _ = .ok (.int 1) from rfl) (u := oEq)).trans (oEq_int _ _))
      exact ⟨_, and_of (asB_of ((two_of rfl rfl).trans (oGt_int x 0))) d5⟩
    obtain ⟨b, cond⟩ := cond
    unfold b_law_offers_k50_1
    rw [seq_of a1]
    cases b with
    | false =>
      refine ⟨_, (if_f cond).trans rfl, x + 1, lss ++ [ls], _, rfl, rfl, by omega, by omega, by rw [List.length_append, List.length_singleton]; omega, fun l hl2 => ?_⟩
      rcases List.mem_append.mp hl2 with h | h
      · exact hs l h
      · rw [List.mem_singleton.mp h]; exact g2
    | true =>
      obtain ⟨h, hh, eh⟩ : ∃ h, h ∈ lss ++ [ls] ∧ (lss ++ [ls])[0]? = some h := by
        have : 0 < (lss ++ [ls]).length := by rw [List.length_append, List.length_singleton]; omega
        exact ⟨_, List.getElem_mem this, List.getElem?_eq_getElem this⟩
      have ow : dOwnIx 4 (dC (.int 0)) (ro17 ns f n cnt (lss ++ [ls]) (some (.d (.int x)))) = .ok (ofr n h) := by
        show (match atI ((lss ++ [ls]).map (ofr n)) 0 with | some y => PD.R.ok y | none => .bad) = _
        rw [atI_get (ofr n) (Int.le_refl 0) eh]
      have st := setAt_of (i := 4) (fi := dVar 5) (ds := (lss ++ [ls]).map (ofr n)) (k := x) rfl ow rfl k0 (by rw [List.length_map, List.length_append, List.length_singleton]; omega)
      refine ⟨_, (if_t cond).trans st, x + 1, (lss ++ [ls]).set x.toNat h, some (.d (.int x)), ?_, rfl, by omega, by omega, by rw [List.length_set, List.length_append, List.length_singleton]; omega, fun l hl2 => ?_⟩
      · unfold ro17
        rw [List.map_set]
        rfl
      · have sm : ∀ l ∈ lss ++ [ls], Smooth n l := fun l hl => by
          rcases List.mem_append.mp hl with h | h
          · exact hs l h
          · rw [List.mem_singleton.mp h]; exact g2
        rcases List.mem_or_eq_of_mem_set hl2 with h2 | h2
        · exact sm l h2
        · rw [h2]; exact sm h hh)
  obtain ⟨ρ', e, k, lss, o5, rfl, hx, k0, k1, hl, hs⟩ := key (rangeI 0 cnt) (ro17 ns f n cnt [] none) ⟨0, [], none, rfl, rfl, by omega, c0, rfl, fun _ h => nomatch h⟩
  have ek : k = cnt := by
    by_cases h : k < cnt
    · rw [rangeI_cons h] at hx; cases hx
    · omega
  refine ⟨lss, ?_, by omega, hs⟩
  show endR (g_law_offers_k50 [some (.d (li ns)), some (.d (.int f)), some (.d (.int n)), some (.d (.int cnt)), none, none]) = _
  have s1 : gOwn (dLst dNil) 4 [some (.d (li ns)), some (.d (.int f)), some (.d (.int n)), some (.d (.int cnt)), none, none] = .nx (ro17 ns f n cnt [] none) := rfl
  have s2 : gFor (dRng1 (dCons (dVar 3) dNil)) (.nm 5) b_law_offers_k50_1 (ro17 ns f n cnt [] none) = .nx (ro17 ns f n cnt lss o5) := by
    have r : dRng1 (dCons (dVar 3) dNil) (ro17 ns f n cnt [] none) = .ok ((rangeI 0 cnt).map PyData.int) := by
      show rngA1 [.int cnt] = _
      exact rngA1_ok (by omega) (by omega)
    rw [ev_for, r, oR_ok, e]
  unfold g_law_offers_k50
  rw [seq_of s1, seq_of s2]
  rfl
end LW
set_option Elab.async false
set_option linter.all false
set_option maxRecDepth 100000
set_option maxHeartbeats 4000000
namespace LW
open PySem PySem.Spec PyProof.Rows L2 PD
theorem mod50 {ρ : Rho} {L : List Int} {i m : Int} (hL : dVar 1 ρ = .ok (li L)) (i0 : 0 ≤ i) (i1 : i < (L.length : Int)) (hm : m ≠ 0) : dTwo oMod (dArg bInt (dCons (dTwo oIx (dVar 1) (dC (.int i))) dNil)) (dC (.int m)) ρ = .ok (.int ((ixv L i).fmod m)) :=
  (two_of ((arg_of (cons_of ((two_of hL rfl).trans (ix_li50 i0 i1)) rfl)).trans (bInt_int _)) rfl).trans (oMod_int hm)
theorem draw50 {ρ : Rho} {L T : List Int} {i m : Int} {tl : DnL} (hL : dVar 1 ρ = .ok (li L)) (ht : dTup tl ρ = .ok (tu T)) (i0 : 0 ≤ i) (i1 : i < (L.length : Int)) (hm : 0 < m) (hT : (T.length : Int) = m) : ∃ v ∈ T, dTwo oIx (dTup tl) (dTwo oMod (dArg bInt (dCons (dTwo oIx (dVar 1) (dC (.int i))) dNil)) (dC (.int m))) ρ = .ok (.int v) := by
  have a := fmod_lo (ixv L i) hm
  have b := fmod_hi (ixv L i) hm
  exact ⟨_, ixv_mem a (by omega), (two_of ht (mod50 hL i0 i1 (by omega))).trans (ix_tu a (by omega))⟩
theorem osOk50 {n : Int} {os : List (List (List Int))} (n0 : 0 ≤ n) (n12 : n ≤ 12) (h1 : 1 ≤ os.length) (h6 : os.length ≤ 8) (hs : ∀ ls ∈ os, Smooth n ls) : OsOk n os where
  n0 := n0
  n50 := by omega
  smo := hs
  ne := fun e => by rw [e] at h1; simp at h1
  lsne := fun ls h => (hs ls h).good.ne
  wid := by
    have : n.toNat * os.length ≤ 12 * 8 := Nat.mul_le_mul (by omega) h6
    omega
  z100 := by omega
end LW
set_option Elab.async false
set_option linter.all false
set_option maxRecDepth 100000
set_option maxHeartbeats 4000000
namespace LW
open PySem PySem.Spec PyProof.Rows L2 PD
section
variable {n lim : Int} {os : List (List (List Int))} {d ch : List (List Int)} {X : List Int} {K : Int → Stp} {dep : Int → Int → Nat}
def inX (X l : List Int) : Int := ((l.filter fun x => decide (x ∈ X)).length : Int)
def full50 (os : List (List (List Int))) : Int := (os.map fun ls => ((ixr ls 0).length : Int)).sum
def held50 (X : List Int) (os : List (List (List Int))) : Int := (os.map fun ls => rank X ls).sum
def barB (n lim : Int) (os : List (List (List Int))) (X : List Int) : Bool := decide (lim * (n - X.length) + held50 X os < full50 os)
theorem inX_sum (l : List Int) : (l.map fun x => if x ∈ X then (1 : Int) else 0).sum = inX X l := by
  unfold inX
  induction l with
  | nil => rfl
  | cons a l ih =>
    rw [List.map_cons, List.sum_cons, ih]
    by_cases h : a ∈ X
    · rw [if_pos h, List.filter_cons_of_pos (by simpa using h), List.length_cons]; omega
    · rw [if_neg h, List.filter_cons_of_neg (by simpa using h)]; omega
theorem rank_le {ls : List (List Int)} {b : Int} (ne : ls ≠ []) (h : ∀ l ∈ ls, inX X l ≤ b) : rank X ls ≤ b := by
  have := maxI_mem (ns := ls.map fun l => ((l.filter fun x => decide (x ∈ X)).length : Int)) (by rw [List.length_map]; exact List.length_pos_iff.mpr ne)
  obtain ⟨l, hl, e⟩ := List.mem_map.mp this
  unfold rank
  rw [← e]
  exact h l hl
theorem pick_sum {f : List Int → Int} {g : List (List Int) → Int} (h : ∀ l ls, ls ∈ os → l ∈ ls → f l ≤ g ls) : ∀ {d : List (List Int)} {os' : List (List (List Int))}, (∀ ls ∈ os', ls ∈ os) → Pick d os' → (d.map f).sum ≤ (os'.map g).sum
  | [], [], _, _ => Int.le_refl _
  | [], _ :: _, _, hp => hp.elim
  | _ :: _, [], _, hp => hp.elim
  | l :: d, ls :: os', hs, hp => by
    have ih := pick_sum h (d := d) (os' := os') (fun x hx => hs x (List.mem_cons_of_mem _ hx)) hp.2
    have := h l ls (hs ls List.mem_cons_self) hp.1
    simp only [List.map_cons, List.sum_cons]
    omega
theorem pick_sum' {f : List Int → Int} {g : List (List Int) → Int} (h : ∀ l ls, ls ∈ os → l ∈ ls → g ls ≤ f l) : ∀ {d : List (List Int)} {os' : List (List (List Int))}, (∀ ls ∈ os', ls ∈ os) → Pick d os' → (os'.map g).sum ≤ (d.map f).sum
  | [], [], _, _ => Int.le_refl _
  | [], _ :: _, _, hp => hp.elim
  | _ :: _, [], _, hp => hp.elim
  | l :: d, ls :: os', hs, hp => by
    have ih := pick_sum' h (d := d) (os' := os') (fun x hx => hs x (List.mem_cons_of_mem _ hx)) hp.2
    have := h l ls (hs ls List.mem_cons_self) hp.1
    simp only [List.map_cons, List.sum_cons]
    omega
theorem len_eq (O : OsOk n os) {l : List Int} {ls : List (List Int)} (h : ls ∈ os) (hl : l ∈ ls) : ((ixr ls 0).length : Int) = (l.length : Int) := by
  have hn := List.length_pos_iff.mpr (O.lsne ls h)
  have : ixr ls 0 ∈ ls := by
    unfold ixr
    rw [List.getElem?_eq_getElem (i := (0 : Int).toNat) (l := ls) hn]
    exact List.getElem_mem hn
  rw [(O.smo ls h).eqs _ this _ hl]
/-- all lots: what is in X, and the loads of the rest -/
theorem lots_split (hd : ∀ l ∈ d, Asc n l) : (d.map fun l => (l.length : Int)).sum = (d.map fun l => inX X l).sum + ((rangeI 0 n).map fun t => if t ∈ X then 0 else load d t).sum := by
  have a := sum_loads (n := n) (fun _ => (1 : Int)) hd
  have b := sum_loads (n := n) (fun t => if t ∈ X then (1 : Int) else 0) hd
  have one : ∀ l : List Int, (l.map fun _ => (1 : Int)).sum = (l.length : Int) := fun l => by
    induction l with
    | nil => rfl
    | cons x l ih => rw [List.map_cons, List.sum_cons, ih, List.length_cons]; omega
  have e1 : (d.map fun l => (l.map fun _ => (1 : Int)).sum) = d.map fun l => (l.length : Int) := List.map_congr_left fun l _ => one l
  have e2 : (d.map fun l => (l.map fun x => if x ∈ X then (1 : Int) else 0).sum) = d.map fun l => inX X l := List.map_congr_left fun l _ => inX_sum l
  rw [e1] at a
  rw [e2] at b
  rw [← a, ← b, ← sum_add]
  refine sum_congr fun t _ => ?_
  by_cases h : t ∈ X
  · rw [if_pos h, if_pos h]; omega
  · rw [if_neg h, if_neg h]; omega
theorem out_count (a : Asc n X) (n0 : 0 ≤ n) (c : Int) : ((rangeI 0 n).map fun t => if t ∈ X then 0 else c).sum = c * (n - X.length) := by
  have h1 := sum_on a (fun _ => c)
  have h2 : ((rangeI 0 n).map fun _ => c).sum = c * n := by
    have : ∀ l : List Int, (l.map fun _ => c).sum = c * l.length := fun l => by
      induction l with
      | nil => simp
      | cons x l ih => rw [List.map_cons, List.sum_cons, ih, List.length_cons, show (((l.length + 1 : Nat)) : Int) = (l.length : Int) + 1 by omega, Int.mul_add, Int.mul_one]; omega
    rw [this, rng_len]
    congr 1
    omega
  have h3 : (X.map fun _ => c).sum = c * X.length := by
    have : ∀ l : List Int, (l.map fun _ => c).sum = c * l.length := fun l => by
      induction l with
      | nil => simp
      | cons x l ih => rw [List.map_cons, List.sum_cons, ih, List.length_cons, show (((l.length + 1 : Nat)) : Int) = (l.length : Int) + 1 by omega, Int.mul_add, Int.mul_one]; omega
    exact this X
  have h4 := sum_add (l := rangeI 0 n) (fun t => if t ∈ X then c else 0) (fun t => if t ∈ X then 0 else c)
  have h5 : ((rangeI 0 n).map fun t => (if t ∈ X then c else 0) + (if t ∈ X then 0 else c)).sum = ((rangeI 0 n).map fun _ => c).sum := sum_congr fun t _ => by
    by_cases h : t ∈ X
    · rw [if_pos h, if_pos h]; omega
    · rw [if_neg h, if_neg h]; omega
  rw [h5, h2, h1, h3] at h4
  rw [Int.mul_sub]
  omega
theorem full_eq (O : OsOk n os) (hp : Pick d os) : full50 os = (d.map fun l => (l.length : Int)).sum := by
  have a := pick_sum (os := os) (f := fun l => (l.length : Int)) (g := fun ls => ((ixr ls 0).length : Int)) (fun l ls h hl => by rw [len_eq O h hl]; exact Int.le_refl _) (fun _ h => h) hp
  have b := pick_sum' (os := os) (f := fun l => (l.length : Int)) (g := fun ls => ((ixr ls 0).length : Int)) (fun l ls h hl => by rw [len_eq O h hl]; exact Int.le_refl _) (fun _ h => h) hp
  unfold full50
  omega
theorem barX_asc : Asc n (barX n lim ch K) := ⟨(rangeI_asc _ _).filter _, fun x hx => mem_rangeI.mp (List.mem_filter.mp hx).1⟩
/-- the bar that the program finds -/
theorem is_bar (O : OsOk n os) (h0 : 0 ≤ lim) (F : LW.Fin n (limP n os lim) (limC n os.length lim) ch K dep) (ne : over n lim ch ≠ []) : barB n lim os (barX n lim ch K) = true := by
  have A := nice_lim (lim := lim) O
  have hp := chs_pick.mp F.c
  have fe := full_eq O hp
  have ac := F.c.asc A.toGame.toPlay
  have sp := lots_split (X := barX n lim ch K) ac
  have o := out_count (n := n) (X := barX n lim ch K) (barX_asc (ch := ch) (K := K)) O.n0 lim
  have inR : ∀ t, 0 ≤ t → t < n → ¬ t ∈ barX n lim ch K → t ∈ rch n lim ch K := fun t t0 t1 h => Classical.byContradiction fun z => h (List.mem_filter.mpr ⟨mem_rangeI.mpr ⟨t0, t1⟩, by simpa using z⟩)
  have big : ∀ t, 0 ≤ t → t < n → ¬ t ∈ barX n lim ch K → lim ≤ load ch t := fun t t0 t1 h => by
    obtain ⟨s, hs, ht⟩ := List.mem_flatMap.mp (inR t t0 t1 h)
    exact opt_lim O h0 F hs ht
  obtain ⟨s, hs⟩ := List.exists_mem_of_ne_nil _ ne
  obtain ⟨sr, sl⟩ := List.mem_filter.mp hs
  have sl : lim < load ch s := of_decide_eq_true sl
  obtain ⟨s0, s1⟩ := mem_rangeI.mp sr
  have self : s ∈ rch n lim ch K := List.mem_flatMap.mpr ⟨s, hs, List.mem_map.mpr ⟨_, (F.q.chn s (over_ss h0 hs)).has, rfl⟩⟩
  have sX : ¬ s ∈ barX n lim ch K := fun h => by
    have := (List.mem_filter.mp h).2
    simp [self] at this
  have one : Asc n [s] := ⟨List.pairwise_singleton .., fun x hx => by rw [List.mem_singleton.mp hx]; exact ⟨s0, s1⟩⟩
  have so := sum_on one (fun _ => (1 : Int))
  have le := sum_le (l := rangeI 0 n) (f := fun t => (if t ∈ barX n lim ch K then 0 else lim) + (if t ∈ [s] then (1 : Int) else 0)) (g := fun t => if t ∈ barX n lim ch K then 0 else load ch t) fun t ht => by
    obtain ⟨t0, t1⟩ := mem_rangeI.mp ht
    by_cases h : t ∈ barX n lim ch K
    · rw [if_pos h, if_pos h, if_neg (fun m => by rw [List.mem_singleton.mp m] at h; exact sX h)]; omega
    · rw [if_neg h, if_neg h]
      have b := big t t0 t1 h
      by_cases e : t ∈ [s]
      · rw [if_pos e]
        have : t = s := List.mem_singleton.mp e
        subst this
        omega
      · rw [if_neg e]; omega
  rw [sum_add, o] at le
  have so : ((rangeI 0 n).map fun t => if t ∈ [s] then (1 : Int) else 0).sum = 1 := so
  rw [so] at le
  have r : held50 (barX n lim ch K) os ≤ (ch.map fun l => inX (barX n lim ch K) l).sum := by
    have hh : ∀ i : Int, 0 ≤ i → i < (os.length : Int) → ∀ ls, os[i.toNat]? = some ls → rank (barX n lim ch K) ls ≤ inX (barX n lim ch K) (ixr ch i) := fun i i0 i1 ls he => by
      obtain ⟨ls', hm, e, e2⟩ := plx_lim (n := n) (lim := lim) (os := os) i0 i1
      rw [he] at e2
      cases e2
      have m := F.c.mem i i0 (by unfold limP; rw [List.length_map]; exact i1)
      rw [e] at m
      have m : ixr ch i ∈ ls := m
      refine rank_le (O.lsne ls hm) fun q hq => ?_
      have lo := loc_opt (O.smo ls hm) (fun t => if t ∈ barX n lim ch K then (-1 : Int) else 0) m (fun x hx t ht hl => by
        by_cases hX : t ∈ barX n lim ch K
        · have : x ∈ barX n lim ch K := Classical.byContradiction fun z => by
            have xr := ((O.smo ls hm).good.asc _ m).2 x hx
            obtain ⟨s2, hs2, hx2⟩ := List.mem_flatMap.mp (inR x xr.1 xr.2 z)
            have ed : (i, t) ∈ EE n (limP n os lim) ch x := (ee_iff A.smo x i t).mpr ⟨i0, by unfold limP; rw [List.length_map]; exact i1, hx, ht, by rw [e]; exact hl⟩
            have tk := ((F.q.chn s2 (over_ss h0 hs2)).full x hx2 _ ed).1
            have tR : t ∈ rch n lim ch K := List.mem_flatMap.mpr ⟨s2, hs2, tk⟩
            have := (List.mem_filter.mp hX).2
            simp [tR] at this
          rw [if_pos hX, if_pos this]; exact Int.le_refl _
        · rw [if_neg hX]; split <;> omega) hq
      have neg : ∀ l : List Int, (l.map fun t => if t ∈ barX n lim ch K then (-1 : Int) else 0).sum = - inX (barX n lim ch K) l := fun l => by
        rw [← inX_sum]
        induction l with
        | nil => rfl
        | cons a l ih =>
          rw [List.map_cons, List.map_cons, List.sum_cons, List.sum_cons, ih]
          split <;> omega
      rw [neg, neg] at lo
      omega
    have gen : ∀ (d : List (List Int)) (os' : List (List (List Int))), d.length = os'.length → (∀ i : Nat, ∀ l ls, d[i]? = some l → os'[i]? = some ls → rank (barX n lim ch K) ls ≤ inX (barX n lim ch K) l) → (os'.map fun ls => rank (barX n lim ch K) ls).sum ≤ (d.map fun l => inX (barX n lim ch K) l).sum := fun d => by
      induction d with
      | nil => intro os' e _; cases os' with | nil => exact Int.le_refl _ | cons _ _ => cases e
      | cons l d ih =>
        intro os' e h
        cases os' with
        | nil => cases e
        | cons ls os' =>
          have := ih os' (by simpa using e) fun i a as ha hs => h (i + 1) a as (by simpa using ha) (by simpa using hs)
          have h1 := h 0 l ls rfl rfl
          simp only [List.map_cons, List.sum_cons]
          omega
    refine gen ch os (by rw [F.c.len]; unfold limP; rw [List.length_map]) fun i l ls hl hs => ?_
    have i1 := (List.getElem?_eq_some_iff.mp hs).1
    have := hh (i : Int) (by omega) (by omega) ls (by rw [show ((i : Int)).toNat = i by omega]; exact hs)
    unfold ixr at this
    rw [show ((i : Int)).toNat = i by omega, hl] at this
    exact this
  unfold barB
  refine decide_eq_true ?_
  omega
theorem v_law_bars (O : OsOk n os) (h0 : 0 ≤ lim) (hX : X.length ≤ 1000) : m_law_bars [osD n os, .int lim, tu X] = .ok (.bool (barB n lim os X)) := by
  have n0 := O.n0
  have n50 := O.n50
  show endR (g_law_bars [some (.d (osD n os)), some (.d (.int lim)), some (.d (tu X)), none, none, none]) = _
  have i0 := os_hd O
  have e1 : dTwo oMul (dVar 1) (dTwo oSub (dTwo oIx (dTwo oIx (dVar 0) (dC (.int 0))) (dC (.int 0))) (dArg bLen (dCons (dVar 2) dNil))) [some (.d (osD n os)), some (.d (.int lim)), some (.d (tu X)), none, none, none] = .ok (.int (lim * (n - X.length))) :=
    (two_of rfl ((two_of ((two_of ((two_of rfl rfl).trans i0) rfl).trans (of_p0 n _)) ((arg_of (cons_of rfl rfl)).trans (bLen_tu X))).trans (oSub_int _ _))).trans (oMul_r (by omega) (by omega))
  have s1 := set_of (t := .nm 3) e1 (set_nm _ _ _)
  simp only [List.set_cons_succ, List.set_cons_zero] at s1
  have r4 := lc_of (enc := ofr n) (fi := dItems (dVar 0)) (t := .nm 5) (ft := dYes) (fe := dArg m_law_rank (dCons (dVar 2) (dCons (dTwo oIx (dVar 5) (dC (.int 1))) dNil))) (vs := [5]) (ρ := [some (.d (osD n os)), some (.d (.int lim)), some (.d (tu X)), some (.d (.int (lim * (n - X.length)))), none, none]) (xs := os) (st := fun ls => [some (.d (osD n os)), some (.d (.int lim)), some (.d (tu X)), some (.d (.int (lim * (n - X.length)))), none, some (.d (ofr n ls))]) (q := fun _ => true) (g := fun ls => PyData.int (rank X ls)) rfl (fun ls hl => ⟨rfl, rfl, fun _ => (arg_of (cons_of rfl (cons_of ((two_of rfl rfl).trans (of_p1 n ls)) rfl))).trans (v_rank X ls (O.lsne ls hl))⟩)
  rw [List.filter_eq_self.mpr (fun _ _ => rfl)] at r4
  have sm4 : bSum [.list (os.map fun ls => PyData.int (rank X ls))] = .ok (.int (held50 X os)) := by
    rw [li_eq', bSum_li]; rfl
  have s2 := set_of (t := .nm 4) ((arg_of (m := bSum) (cons_of (g := dNil) r4 rfl)).trans sm4) (set_nm _ _ _)
  simp only [List.set_cons_succ, List.set_cons_zero] at s2
  have r5 := lc_of (enc := ofr n) (fi := dItems (dVar 0)) (t := .nm 5) (ft := dYes) (fe := dArg bLen (dCons (dTwo oIx (dTwo oIx (dVar 5) (dC (.int 1))) (dC (.int 0))) dNil)) (vs := [5]) (ρ := [some (.d (osD n os)), some (.d (.int lim)), some (.d (tu X)), some (.d (.int (lim * (n - X.length)))), some (.d (.int (held50 X os))), none]) (xs := os) (st := fun ls => [some (.d (osD n os)), some (.d (.int lim)), some (.d (tu X)), some (.d (.int (lim * (n - X.length)))), some (.d (.int (held50 X os))), some (.d (ofr n ls))]) (q := fun _ => true) (g := fun ls => PyData.int ((ixr ls 0).length : Int)) rfl (fun ls hl => ⟨rfl, rfl, fun _ => by
    have e : oIx (tt ls) (.int 0) = .ok (tu (ixr ls 0)) := by
      have hl := List.length_pos_iff.mpr (O.lsne ls hl)
      unfold ixr
      rw [oIx_tt (Int.le_refl 0) (List.getElem?_eq_getElem (i := (0 : Int).toNat) (l := ls) hl), List.getElem?_eq_getElem (i := (0 : Int).toNat) (l := ls) hl]
      rfl
    exact (arg_of (cons_of ((two_of ((two_of rfl rfl).trans (of_p1 n ls)) rfl).trans e) rfl)).trans (bLen_tu _)⟩)
  rw [List.filter_eq_self.mpr (fun _ _ => rfl)] at r5
  have sm5 : bSum [.list (os.map fun ls => PyData.int ((ixr ls 0).length : Int))] = .ok (.int (full50 os)) := by
    rw [li_eq', bSum_li]; rfl
  have e3 := (two_of (u := oLt) ((two_of (u := oAdd) (f := dVar 3) (g := dVar 4) rfl rfl).trans (oAdd_int _ _)) ((arg_of (m := bSum) (cons_of r5 (g := dNil) rfl)).trans sm5)).trans (oLt_int _ _)
  unfold g_law_bars
  rw [seq_of s1, seq_of s2, ret_of e3]
  rfl
end
end LW
set_option Elab.async false
set_option linter.all false
set_option maxRecDepth 100000
set_option maxHeartbeats 4000000
namespace LW
open PySem PySem.Spec PyProof.Rows L2 PD
section
variable {n lim : Int} {os : List (List (List Int))}
theorem v_bar (O : OsOk n os) (h0 : 0 ≤ lim) : ∃ dh K dep, LW.Fin n (limP n os lim) (limC n os.length lim) dh K dep ∧ m_bar [osD n os, .int lim] = .ok (barD n lim dh K) := by
  have e1 := v_first_lots O
  obtain ⟨dh, K, dep, e2, F⟩ := v_least_crowded (lim := lim) O (first_chs50 O)
  have e3 := v_bar_behind O h0 F
  refine ⟨dh, K, dep, F, ?_⟩
  show endR (g_bar [some (.d (osD n os)), some (.d (.int lim))]) = _
  unfold g_bar
  rw [ret_of ((arg_of (cons_of (f := dVar 0) rfl (cons_of (f := dVar 1) rfl (cons_of (g := dNil) ((arg_of (cons_of (f := dVar 0) rfl (cons_of (f := dVar 1) rfl (cons_of (g := dNil) ((arg_of (cons_of (f := dVar 0) (g := dNil) rfl rfl)).trans e1) rfl)))).trans e2) rfl)))).trans e3)]
  rfl
end
end LW
set_option Elab.async false
set_option maxRecDepth 100000
set_option linter.all false
set_option maxHeartbeats 2000000
set_option Elab.async false
set_option linter.all false
set_option maxRecDepth 100000
set_option maxHeartbeats 4000000
set_option Elab.async false
set_option maxRecDepth 100000
set_option linter.all false
set_option maxHeartbeats 2000000
namespace LW
open PySem PySem.Spec PyProof.Rows L2 PD
def freeB (ls : List (List Int)) (t : List Int) : Bool := ls.any fun l => t.all fun x => decide (x ∈ l)
def cand (n : Int) (ls : List (List Int)) (u : List Int) : List Int := (rangeI 0 n).filter fun x => !decide (x ∈ u) && freeB ls (u ++ [x])
def G (n : Int) (ls : List (List Int)) (P : List Int) : Nat → List Int
  | 0 => []
  | k + 1 => match best (ixv P) (cand n ls (G n ls P k)) with
    | some b => G n ls P k ++ [b]
    | none => G n ls P k
end LW
set_option Elab.async false
set_option linter.all false
set_option maxRecDepth 100000
set_option maxHeartbeats 4000000
set_option Elab.async false
set_option maxRecDepth 100000
set_option linter.all false
set_option maxHeartbeats 2000000
namespace LW
open PySem PySem.Spec PyProof.Rows L2 PD
def lv (l : List Int) (x : Int) : List Int := l.filter fun y => !(y == x)
theorem mem_lv {l : List Int} {x y : Int} : y ∈ lv l x ↔ y ∈ l ∧ ¬ y = x := by unfold lv; simp
theorem lv_asc {n x : Int} {l : List Int} (h : Asc n l) : Asc n (lv l x) := ⟨h.1.sublist List.filter_sublist, fun y hy => h.2 y (mem_lv.mp hy).1⟩
theorem lv_len {l : List Int} {x : Int} (nd : l.Nodup) (hx : x ∈ l) : (lv l x).length + 1 = l.length := by
  have e : lv l x = l.erase x := (nd.erase_eq_filter x).symm
  have := List.length_pos_of_mem hx
  rw [e, List.length_erase_of_mem hx]
  omega
def Free (n : Int) (ls : List (List Int)) (k : List Int) : Prop := Asc n k ∧ ∃ l ∈ ls, ∀ y ∈ k, y ∈ l
theorem Free.lv {n x : Int} {ls : List (List Int)} {k : List Int} (h : Free n ls k) : Free n ls (lv k x) :=
  ⟨lv_asc h.1, let ⟨l, a, b⟩ := h.2; ⟨l, a, fun y hy => b y (mem_lv.mp hy).1⟩⟩
@[simp] theorem ev_newD (i : Nat) (ρ : Rho) : gNewD i ρ = .nx (ρ.set i (some (.dct []))) := rfl
def dctA (s : Option (Option Sl)) (k : List (List Int) → Out) : Out := match s with
  | some (some (.dct ds)) => k ds
  | _ => .bad
@[simp] theorem dctA_d (ks : List (List Int)) (k : List (List Int) → Out) : dctA (some (some (.dct ks))) k = k ks := rfl
@[simp] theorem ev_putD (i : Nat) (f : Dn) (ρ : Rho) : gPutD i f ρ = dctA ρ[i]? fun ks => oR (f ρ) ρ fun d => match asTu d with
  | some k => if ks.length < sizeLine then .nx (ρ.set i (some (.dct (if k ∈ ks then ks else ks ++ [k])))) else .bad
  | none => .bad := rfl
@[simp] theorem ev_setPop (j i : Nat) (ρ : Rho) : gSetPop j i ρ = ownA ρ[i]? fun ds => match ds.getLast? with
  | some d => .nx ((ρ.set i (some (.own ds.dropLast))).set j (some (.d d)))
  | none => .bad := rfl
def extO (d : PyData) (ds : List PyData) (ρ : Rho) (i : Nat) : Out := match d with
  | .list es => if ds.length + es.length ≤ sizeLine then .nx (ρ.set i (some (.own (ds ++ es)))) else .bad
  | _ => .bad
@[simp] theorem extO_lt (l : List (List Int)) (ds : List PyData) (ρ : Rho) (i : Nat) : extO (lt l) ds ρ i = if ds.length + l.length ≤ sizeLine then .nx (ρ.set i (some (.own (ds ++ l.map tu)))) else .bad := by
  show (if ds.length + (l.map tu).length ≤ sizeLine then _ else _) = _
  rw [List.length_map]
@[simp] theorem ev_ext (i : Nat) (f : Dn) (ρ : Rho) : gExt i f ρ = ownA ρ[i]? fun ds => oR (f ρ) ρ fun d => extO d ds ρ i := rfl
def frzDA (ρ : Rho) (i : Nat) (s : Option (Option Sl)) : Option Rho := match s with
  | some (some (.dct ks)) => some (ρ.set i (some (.d (.dict (ks.map keyD)))))
  | _ => none
@[simp] theorem frzDA_d (ρ : Rho) (i : Nat) (ks : List (List Int)) : frzDA ρ i (some (some (.dct ks))) = some (ρ.set i (some (.d (.dict (ks.map keyD))))) := rfl
@[simp] theorem oNotInT_tu (k : List Int) (ks : List (List Int)) : oNotInT (tu k) (.dict (ks.map keyD)) = .ok (.bool (!decide (k ∈ ks))) := by
  have h := oInT_tu k ks
  unfold oInT at h
  unfold oNotInT
  rw [asTu_tu] at h ⊢
  simp only [marked_keyD, Bool.false_eq_true, if_false, R.ok.injEq, PyData.bool.injEq] at h ⊢
  rw [h]
@[simp] theorem oNotInT_tu' (k : List Int) (ks : List (List Int)) : oNotInT (tu k) (.dict (ks.map fun k => (tu k, PyData.bool true))) = .ok (.bool (!decide (k ∈ ks))) := oNotInT_tu k ks
end LW
set_option Elab.async false
set_option maxRecDepth 100000
set_option linter.all false
set_option maxHeartbeats 2000000
namespace LW
open PySem PySem.Spec PyProof.Rows L2 PD
@[simp] theorem ev_keys (f : Dn) (ρ : Rho) : dKeys f ρ = (f ρ >>= keysL) := rfl
end LW
set_option Elab.async false
set_option maxRecDepth 100000
set_option linter.all false
set_option maxHeartbeats 2000000
set_option Elab.async false
set_option maxRecDepth 100000
set_option linter.all false
set_option maxHeartbeats 2000000
namespace LW
open PySem PySem.Spec PyProof.Rows L2 PD
def ins (l : List Int) (x : Int) : List Int := sortI (l ++ [x])
theorem mem_ins {l : List Int} {x y : Int} : y ∈ ins l x ↔ y ∈ l ∨ y = x := by unfold ins; rw [mem_sortI]; simp
theorem ins_asc {n x : Int} {l : List Int} (h : Asc n l) (hx : ¬ x ∈ l) (b : 0 ≤ x ∧ x < n) : Asc n (ins l x) := by
  refine sortI_asc ?_ fun y hy => ?_
  · rw [List.nodup_append]
    exact ⟨h.nodup, by simp, fun a ha c hc => by rw [List.mem_singleton.mp hc]; exact fun e => hx (by rw [← e]; exact ha)⟩
  · rcases List.mem_append.mp hy with q | q
    · exact h.2 y q
    · rw [List.mem_singleton.mp q]; exact b
theorem ins_len (l : List Int) (x : Int) : (ins l x).length = l.length + 1 := by
  unfold ins
  rw [(sortD_ints (l ++ [x])).2.length_eq, List.length_append, List.length_singleton]
theorem Free.sub {n : Int} {ls : List (List Int)} {k r : List Int} (h : Free n ls k) (ha : Asc n r) (hs : ∀ y ∈ r, y ∈ k) : Free n ls r := ⟨ha, let ⟨l, a, b⟩ := h.2; ⟨l, a, fun y hy => b y (hs y hy)⟩⟩
theorem Free.bd {n x : Int} {ls : List (List Int)} {k : List Int} (h : Free n ls k) (hx : x ∈ k) : 0 ≤ x ∧ x < n := h.1.2 x hx
def Aug (n : Int) (ls : List (List Int)) : Prop := ∀ a b, Free n ls a → Free n ls b → a.length < b.length → ∃ z ∈ b, ¬ z ∈ a ∧ Free n ls (ins a z)
theorem len_split (l k : List Int) : l.length = (l.filter fun y => decide (y ∈ k)).length + (l.filter fun y => !decide (y ∈ k)).length := by
  induction l with
  | nil => rfl
  | cons a l ih =>
    by_cases h : a ∈ k <;> simp [List.filter_cons, h, ih] <;> omega
theorem filter_asc {n : Int} {l : List Int} (h : Asc n l) (p : Int → Bool) : Asc n (l.filter p) := ⟨h.1.sublist List.filter_sublist, fun x hx => h.2 x (List.mem_filter.mp hx).1⟩
theorem both_len {n : Int} {a b : List Int} (ha : Asc n a) (hb : Asc n b) : (a.filter fun y => decide (y ∈ b)).length = (b.filter fun y => decide (y ∈ a)).length := by
  have : (a.filter fun y => decide (y ∈ b)) = b.filter fun y => decide (y ∈ a) := asc_ext (filter_asc ha _).1 (filter_asc hb _).1 fun y => by
    rw [List.mem_filter, List.mem_filter]; simp [and_comm]
  rw [this]
theorem aug_smooth {n : Int} {ls : List (List Int)} (s : Smooth n ls) : Aug n ls := by
  intro a b ha hb hlt
  obtain ⟨Y, hY, hbY⟩ := hb.2
  have aY := s.good.asc Y hY
  -- X above a, the fewest outside Y
  have : ∀ (m : Nat) (X : List Int), X ∈ ls → (∀ y ∈ a, y ∈ X) → (X.filter fun y => !decide (y ∈ Y)).length = m → ∃ z ∈ b, ¬ z ∈ a ∧ Free n ls (ins a z) := by
    intro m
    induction m using Nat.strongRecOn with
    | _ m ih =>
      intro X hX haX hm
      have aX := s.good.asc X hX
      by_cases c : ∃ z ∈ b, ¬ z ∈ a ∧ z ∈ X
      · obtain ⟨z, hz, hza, hzX⟩ := c
        exact ⟨z, hz, hza, ins_asc ha.1 hza (hb.bd hz), X, hX, fun y hy => by
          rcases mem_ins.mp hy with h | h
          · exact haX y h
          · rw [h]; exact hzX⟩
      · by_cases d : ∃ x ∈ X, ¬ x ∈ Y ∧ ¬ x ∈ a
        · obtain ⟨x, hx, hxY, hxa⟩ := d
          obtain ⟨t, ht, htX, hl⟩ := s.exc X hX x hx Y hY hxY
          refine ih _ ?_ (exch X x t) hl (fun y hy => mem_exch.mpr (.inl ⟨haX y hy, fun e => hxa (by rw [← e]; exact hy)⟩)) rfl
          have e1 : (exch X x t).filter (fun y => !decide (y ∈ Y)) = lv (X.filter fun y => !decide (y ∈ Y)) x := by
            refine asc_ext (filter_asc (exch_asc aX htX (aY.2 t ht)) _).1 (lv_asc (filter_asc aX _)).1 fun y => ?_
            rw [List.mem_filter, mem_exch, mem_lv, List.mem_filter]
            simp only [Bool.not_eq_true', decide_eq_false_iff_not]
            constructor
            · rintro ⟨h | h, h2⟩
              · exact ⟨⟨h.1, h2⟩, h.2⟩
              · exact absurd (by rw [h]; exact ht) h2
            · rintro ⟨⟨h1, h2⟩, h3⟩
              exact ⟨.inl ⟨h1, h3⟩, h2⟩
          have hxm : x ∈ X.filter fun y => !decide (y ∈ Y) := List.mem_filter.mpr ⟨hx, by simp [hxY]⟩
          have := lv_len (filter_asc aX _).nodup hxm
          rw [e1]
          omega
        · exfalso
          have s1 : ∀ x ∈ X, ¬ x ∈ Y → x ∈ a := fun x hx hxY => by
            by_cases e : x ∈ a
            · exact e
            · exact absurd ⟨x, hx, hxY, e⟩ d
          have s2 : ∀ z ∈ b, ¬ z ∈ a → ¬ z ∈ X := fun z hz hza hzX => c ⟨z, hz, hza, hzX⟩
          have l1 := sub_len (filter_asc aX fun y => !decide (y ∈ Y)).1 (filter_asc ha.1 fun y => !decide (y ∈ b)).1 fun y hy => by
            obtain ⟨h1, h2⟩ := List.mem_filter.mp hy
            have h2 : ¬ y ∈ Y := by simpa using h2
            exact List.mem_filter.mpr ⟨s1 y h1 h2, by simp; exact fun z => h2 (hbY y z)⟩
          have l2 := sub_len (filter_asc hb.1 fun y => !decide (y ∈ a)).1 (filter_asc aY fun y => !decide (y ∈ X)).1 fun y hy => by
            obtain ⟨h1, h2⟩ := List.mem_filter.mp hy
            have h2 : ¬ y ∈ a := by simpa using h2
            exact List.mem_filter.mpr ⟨hbY y h1, by simp; exact s2 y h1 h2⟩
          have q1 := len_split X Y
          have q2 := len_split Y X
          have q3 := both_len aX aY
          have q4 := len_split a b
          have q5 := len_split b a
          have q6 := both_len ha.1 hb.1
          have q7 := s.eqs X hX Y hY
          omega
  obtain ⟨X, hX, haX⟩ := ha.2
  exact this _ X hX haX rfl
theorem exc_of_aug {n : Int} {ls : List (List Int)} (g : Good n ls) (top : ∀ a ∈ ls, ∀ b ∈ ls, (∀ y ∈ a, y ∈ b) → a = b) (A : Aug n ls) : Exc ls := by
  have fr : ∀ a ∈ ls, Free n ls a := fun a ha => ⟨g.asc a ha, a, ha, fun _ h => h⟩
  have le : ∀ a ∈ ls, ∀ b ∈ ls, b.length ≤ a.length := fun a ha b hb => by
    by_cases h : a.length < b.length
    · obtain ⟨z, hz, hza, hf⟩ := A a b (fr a ha) (fr b hb) h
      obtain ⟨l, hl, hs⟩ := hf.2
      have e := top a ha l hl fun y hy => hs y (mem_ins.mpr (.inl hy))
      exact absurd (by rw [e]; exact hs z (mem_ins.mpr (.inr rfl))) hza
    · omega
  intro X hX x hx Y hY hxY
  have f1 : Free n ls (lv X x) := (fr X hX).lv
  have l1 := lv_len (g.asc X hX).nodup hx
  have l2 := le Y hY X hX
  obtain ⟨z, hz, hzX, hf⟩ := A (lv X x) Y f1 (fr Y hY) (by omega)
  have hzx : ¬ z = x := fun e => hxY (by rw [← e]; exact hz)
  have hzX' : ¬ z ∈ X := fun q => hzX (mem_lv.mpr ⟨q, hzx⟩)
  refine ⟨z, hz, hzX', ?_⟩
  obtain ⟨l, hl, hs⟩ := hf.2
  have e : exch X x z = l := by
    have aE := exch_asc (x := x) (g.asc X hX) hzX' ((g.asc Y hY).2 z hz)
    have s1 : ∀ y ∈ exch X x z, y ∈ l := fun y hy => by
      rcases mem_exch.mp hy with h | h
      · exact hs y (mem_ins.mpr (.inl (mem_lv.mpr h)))
      · exact hs y (mem_ins.mpr (.inr h))
    have s2 := exch_len (x := x) (t := z) (g.asc X hX).nodup hx
    have s3 := le X hX l hl
    exact (asc_sub aE.1 (g.asc l hl).1 s1).eq_of_length_le (by omega)
  rw [e]; exact hl
end LW
set_option Elab.async false
set_option linter.all false
set_option maxRecDepth 100000
set_option maxHeartbeats 4000000
set_option Elab.async false
set_option maxRecDepth 100000
set_option linter.all false
set_option maxHeartbeats 2000000
set_option Elab.async false
set_option maxRecDepth 100000
set_option linter.all false
set_option maxHeartbeats 2000000
namespace LW
open PySem PySem.Spec PyProof.Rows L2 PD
@[simp] theorem oInT_tu' (k : List Int) (ks : List (List Int)) : oInT (tu k) (.dict (ks.map fun k => (tu k, PyData.bool true))) = .ok (.bool (decide (k ∈ ks))) := oInT_tu k ks
def uni (c d : List Int) : List Int := uniq (c ++ d)
theorem v_union4 (a b : List Int) (h : a.length + b.length < 60) : m_union [tu a, tu b] = .ok (tu (uni a b)) := by
  show endR (g_union [some (.d (tu a)), some (.d (tu b))]) = _
  have ea := oAdd_tu (a := a) (b := b) (by omega)
  have es : bSortSet (tu (a ++ b)) = .ok (li (uniq (a ++ b))) := by
    show ofO (asInts ((a ++ b).map PyData.int)) (fun ns => if ns.length < 60 then R.ok (PyData.list ((uniq ns).map .int)) else .bad) = _
    rw [asInts_map]
    show (if (a ++ b).length < 60 then R.ok (PyData.list ((uniq (a ++ b)).map .int)) else .bad) = _
    rw [if_pos (by rw [List.length_append]; exact h)]
    rfl
  simp [g_union, ea, es, uni]
theorem uni_asc {n : Int} {c d : List Int} (hc : Asc n c) (hd : Asc n d) : Asc n (uni c d) := ⟨uniq_asc _, fun y hy => by
  rcases List.mem_append.mp (mem_uniq.mp hy) with h | h
  · exact hc.2 y h
  · exact hd.2 y h⟩
theorem mem_uni {c d : List Int} {y : Int} : y ∈ uni c d ↔ y ∈ c ∨ y ∈ d := by unfold uni; rw [mem_uniq, List.mem_append]
end LW
set_option Elab.async false
set_option linter.all false
set_option maxRecDepth 100000
set_option maxHeartbeats 4000000
set_option Elab.async false
set_option linter.all false
set_option maxRecDepth 100000
set_option maxHeartbeats 4000000
set_option Elab.async false
set_option linter.all false
set_option maxRecDepth 100000
set_option maxHeartbeats 4000000
set_option Elab.async false
set_option linter.all false
set_option maxRecDepth 100000
set_option maxHeartbeats 4000000
set_option Elab.async false
set_option maxRecDepth 100000
set_option linter.all false
set_option maxHeartbeats 2000000
namespace LW
open PySem PySem.Spec PyProof.Rows L2 PD
def ll (rows : List (List Int)) : PyData := .list (rows.map li)
theorem nodup_insK : ∀ {ks acc : List (List Int)}, acc.Nodup → (ks.foldl insK acc).Nodup
  | [], _, h => h
  | k :: ks, acc, h => by
    rw [List.foldl_cons]
    refine nodup_insK ?_
    unfold insK
    split
    · exact h
    · rename_i hk
      rw [List.nodup_append]
      exact ⟨h, by simp, fun a ha b hb e => hk (by rw [← List.mem_singleton.mp hb, ← e]; exact ha)⟩
end LW
set_option Elab.async false
set_option maxRecDepth 100000
set_option linter.all false
set_option maxHeartbeats 2000000
namespace LW
open PySem PySem.Spec PyProof.Rows L2 PD
theorem combs_of_sub {α : Type} : ∀ {S D : List α}, S.Sublist D → S ∈ combs S.length D
  | [], D, _ => by cases D <;> exact List.mem_singleton.mpr rfl
  | x :: S, D, h => by
    induction D with
    | nil => cases h
    | cons y D ih =>
      show x :: S ∈ (combs S.length D).map (y :: ·) ++ combs (S.length + 1) D
      cases h with
      | cons _ h => exact List.mem_append_right _ (ih h)
      | cons_cons _ h => exact List.mem_append_left _ (List.mem_map.mpr ⟨S, combs_of_sub h, rfl⟩)
theorem mem_combs {D S : List Int} {r : Nat} (hD : D.Pairwise (· < ·)) : S ∈ combs r D ↔ S.Pairwise (· < ·) ∧ (∀ x ∈ S, x ∈ D) ∧ S.length = r := by
  constructor
  · intro h
    obtain ⟨s, l⟩ := combs_sub h
    exact ⟨hD.sublist s, fun x hx => s.subset hx, l⟩
  · rintro ⟨a, b, rfl⟩
    exact combs_of_sub (asc_sub a hD b)
theorem combs_asd : ∀ {r : Nat} {D : List Int}, D.Pairwise (· < ·) → Asd (combs r D)
  | 0, D, _ => by cases D <;> exact List.pairwise_singleton _ _
  | r + 1, [], _ => .nil
  | r + 1, x :: xs, h => by
    obtain ⟨h1, h2⟩ := List.pairwise_cons.mp h
    show ((combs r xs).map (x :: ·) ++ combs (r + 1) xs).Pairwise _
    rw [List.pairwise_append]
    refine ⟨List.pairwise_map.mpr ((combs_asd (r := r) h2).imp fun {a b} q => by rw [HT.lexLt_cons, if_pos rfl]; exact q), combs_asd h2, fun a ha b hb => ?_⟩
    obtain ⟨a', _, rfl⟩ := List.mem_map.mp ha
    obtain ⟨s, l⟩ := combs_sub hb
    cases b with
    | nil => cases l
    | cons y b =>
      have lt := h1 y (s.subset List.mem_cons_self)
      rw [HT.lexLt_cons, if_neg (by omega)]
      exact decide_eq_true lt
theorem sortSc2_ok {fi : DnL} {t : Tg} {ft : DnB} {fi1 : DnL} {t1 : Tg} {ft1 : DnB} {fe : Dn} {vs vs1 : List Nat} {ρ : Rho} {ds : List PyData} {ks : List (List Int)} (h1 : fi ρ = .ok ds) (h2 : dc2Go t ft fi1 t1 ft1 fe vs1 (wipeR ρ vs) ds [] = .ok ks) (h3 : ks.length < 63) (h4 : ∀ k ∈ ks, k.length ≤ 100000) : dSortSc2 fi t ft fi1 t1 ft1 fe vs vs1 ρ = .ok (lt (sortT ks)) := by
  unfold dSortSc2
  rw [h1, R.bind_ok, h2, nx_ok', if_pos]
  · have : sortD (ks.map fun k => PyData.tuple (k.map .int)) = (sortT ks).map tu := (sortD_tus ks).1
    rw [this]; rfl
  · refine ⟨h3, List.all_eq_true.mpr fun k hk => decide_eq_true ?_⟩
    have := h4 k hk
    rw [sizeLine_eq]; omega
end LW
set_option Elab.async false
set_option maxRecDepth 100000
set_option linter.all false
set_option maxHeartbeats 2000000
set_option Elab.async false
set_option linter.all false
set_option maxRecDepth 100000
set_option maxHeartbeats 4000000
set_option Elab.async false
set_option maxRecDepth 100000
set_option linter.all false
set_option maxHeartbeats 2000000
namespace LW
open PySem PySem.Spec PyProof.Rows L2 PD
theorem less_len06 {x : Int} {l : List Int} (nd : l.Nodup) (hx : x ∈ l) : (l.filter fun y => !(y == x)).length + 1 = l.length := by
  have a := exch_len (t := x) nd hx
  have b := ins_len (l.filter fun y => !(y == x)) x
  rw [show ins (l.filter fun y => !(y == x)) x = exch l x x from rfl, a] at b
  exact b.symm
end LW
set_option Elab.async false
set_option maxRecDepth 100000
set_option linter.all false
set_option maxHeartbeats 2000000
namespace LW
open PySem PySem.Spec PyProof.Rows L2 PD
def ov (a j : List Int) : Nat := (a.filter fun y => decide (y ∈ j)).length
theorem ov_ins {a j : List Int} {x : Int} (hj : x ∈ j) : ov (ins a x) j = ov a j + 1 := by
  unfold ov
  have p : (ins a x).Perm (a ++ [x]) := (sortD_ints _).2
  rw [(p.filter _).length_eq, List.filter_append, List.length_append]
  simp [hj]
theorem ov_less {b j : List Int} {x : Int} (hj : ¬ x ∈ j) : ov (b.filter fun y => !(y == x)) j = ov b j := by
  unfold ov
  rw [List.filter_filter]
  congr 1
  refine List.filter_congr fun y _ => ?_
  by_cases q : y ∈ j
  · have : ¬ y = x := fun e => hj (e ▸ q)
    simp [q, this]
  · simp [q]
theorem ov_le (a j : List Int) : ov a j ≤ a.length := List.length_filter_le _ _
/-- one step: a thing more, or a greater part in common with j1 -/
theorem un_step {n : Int} {A B : List (List Int)} (aA : Aug n A) {a b j1 j2 : List Int} (fa : Free n A a) (fb : Free n B b) (f1 : Free n A j1) (dj : ∀ y ∈ a, ¬ y ∈ b) (dk : ∀ y ∈ j1, ¬ y ∈ j2) (lt : a.length < j1.length) :
    (∃ z ∈ j1, ¬ z ∈ a ∧ ¬ z ∈ b ∧ Free n A (ins a z)) ∨ ∃ a' b', Free n A a' ∧ Free n B b' ∧ (∀ y ∈ a', ¬ y ∈ b') ∧ (∀ y, (y ∈ a' ∨ y ∈ b') ↔ (y ∈ a ∨ y ∈ b)) ∧ a'.length + b'.length = a.length + b.length ∧ ov a' j1 + ov b' j2 = ov a j1 + ov b j2 + 1 := by
  obtain ⟨x, hx, nx, fx⟩ := aA a j1 fa f1 lt
  by_cases xb : x ∈ b
  · refine .inr ⟨ins a x, b.filter fun y => !(y == x), fx, fb.sub (filter_asc fb.1 _) fun y hy => (List.mem_filter.mp hy).1, fun y hy z => ?_, fun y => ?_, ?_, ?_⟩
    · obtain ⟨z1, z2⟩ := List.mem_filter.mp z
      rcases mem_ins.mp hy with q | q
      · exact dj y q z1
      · simp [q] at z2
    · rw [mem_ins, List.mem_filter]
      constructor
      · rintro ((h | h) | ⟨h, _⟩)
        · exact .inl h
        · exact .inr (h ▸ xb)
        · exact .inr h
      · rintro (h | h)
        · exact .inl (.inl h)
        · by_cases q : y = x
          · exact .inl (.inr q)
          · exact .inr ⟨h, by simpa using q⟩
    · have := less_len06 fb.1.nodup xb
      rw [ins_len]
      omega
    · rw [ov_ins hx, ov_less (dk x hx)]
      omega
  · exact .inl ⟨x, hx, nx, xb, fx⟩
theorem un_aug {n : Int} {A B : List (List Int)} (aA : Aug n A) (aB : Aug n B) {j1 j2 : List Int} (f1 : Free n A j1) (f2 : Free n B j2) (dk : ∀ y ∈ j1, ¬ y ∈ j2) : ∀ (k : Nat) {a b : List Int}, j1.length + j2.length - (ov a j1 + ov b j2) ≤ k → Free n A a → Free n B b → (∀ y ∈ a, ¬ y ∈ b) → a.length + b.length < j1.length + j2.length →
    ∃ z, (z ∈ j1 ∨ z ∈ j2) ∧ ¬ z ∈ a ∧ ¬ z ∈ b ∧ ∃ a' b', Free n A a' ∧ Free n B b' ∧ ∀ y, (y ∈ a' ∨ y ∈ b') ↔ (y ∈ a ∨ y ∈ b ∨ y = z) := by
  intro k
  induction k with
  | zero =>
    intro a b hk fa fb dj lt
    have := ov_le a j1
    have := ov_le b j2
    omega
  | succ k ih =>
    intro a b hk fa fb dj lt
    have o1 := ov_le a j1
    have o2 := ov_le b j2
    by_cases c : a.length < j1.length
    · rcases un_step aA fa fb f1 dj dk c with ⟨z, hz, na, nb, fz⟩ | ⟨a', b', fa', fb', dj', same, ll, oo⟩
      · refine ⟨z, .inl hz, na, nb, ins a z, b, fz, fb, fun y => ?_⟩
        rw [mem_ins]
        constructor
        · rintro ((h | h) | h)
          · exact .inl h
          · exact .inr (.inr h)
          · exact .inr (.inl h)
        · rintro (h | h | h)
          · exact .inl (.inl h)
          · exact .inr h
          · exact .inl (.inr h)
      · obtain ⟨z, h1, h2, h3, a2, b2, g1, g2, g3⟩ := ih (a := a') (b := b') (by omega) fa' fb' dj' (by omega)
        have nz : ¬ (z ∈ a ∨ z ∈ b) := fun q => ((same z).mpr q).elim h2 h3
        refine ⟨z, h1, fun q => nz (.inl q), fun q => nz (.inr q), a2, b2, g1, g2, fun y => ?_⟩
        rw [g3, ← or_assoc, same, or_assoc]
    · have c2 : b.length < j2.length := by omega
      rcases un_step (A := B) (B := A) (a := b) (b := a) (j1 := j2) (j2 := j1) aB fb fa f2 (fun y hy z => dj y z hy) (fun y hy z => dk y z hy) c2 with ⟨z, hz, nb, na, fz⟩ | ⟨b', a', fb', fa', dj', same, ll, oo⟩
      · refine ⟨z, .inr hz, na, nb, a, ins b z, fa, fz, fun y => ?_⟩
        rw [mem_ins]
      · have same2 : ∀ y, (y ∈ a' ∨ y ∈ b') ↔ (y ∈ a ∨ y ∈ b) := fun y => by rw [or_comm, same y, or_comm]
        obtain ⟨z, h1, h2, h3, a2, b2, g1, g2, g3⟩ := ih (a := a') (b := b') (by omega) fa' fb' (fun y hy q => dj' y q hy) (by omega)
        have nz : ¬ (z ∈ a ∨ z ∈ b) := fun q => ((same2 z).mpr q).elim h2 h3
        refine ⟨z, h1, fun q => nz (.inl q), fun q => nz (.inr q), a2, b2, g1, g2, fun y => ?_⟩
        rw [g3, ← or_assoc, same2, or_assoc]
/-- a set within a union of a lot of each -/
def UF (n : Int) (A B : List (List Int)) (S : List Int) : Prop := Asc n S ∧ ∃ a ∈ A, ∃ b ∈ B, ∀ y ∈ S, y ∈ a ∨ y ∈ b
theorem UF.parts {n : Int} {A B : List (List Int)} {S : List Int} (h : UF n A B S) : ∃ a b, Free n A a ∧ Free n B b ∧ (∀ y ∈ a, ¬ y ∈ b) ∧ (∀ y, (y ∈ a ∨ y ∈ b) ↔ y ∈ S) ∧ a.length + b.length = S.length := by
  obtain ⟨hS, a, ha, b, hb, h⟩ := h
  refine ⟨S.filter fun y => decide (y ∈ a), S.filter fun y => !decide (y ∈ a), ⟨filter_asc hS _, a, ha, fun y hy => by simpa using (List.mem_filter.mp hy).2⟩, ⟨filter_asc hS _, b, hb, fun y hy => ?_⟩, fun y hy z => ?_, fun y => ?_, (len_split S a).symm⟩
  · obtain ⟨q1, q2⟩ := List.mem_filter.mp hy
    exact (h y q1).resolve_left (by simpa using q2)
  · have q1 := (List.mem_filter.mp hy).2
    have q2 := (List.mem_filter.mp z).2
    simp at q1 q2
    exact q2 q1
  · rw [List.mem_filter, List.mem_filter]
    constructor
    · rintro (z | z) <;> exact z.1
    · intro hy
      by_cases q : y ∈ a
      · exact .inl ⟨hy, by simpa using q⟩
      · exact .inr ⟨hy, by simpa using q⟩
theorem UF.sub {n : Int} {A B : List (List Int)} {S T : List Int} (h : UF n A B S) (hT : Asc n T) (s : ∀ y ∈ T, y ∈ S) : UF n A B T := by
  obtain ⟨_, a, ha, b, hb, h⟩ := h
  exact ⟨hT, a, ha, b, hb, fun y hy => h y (s y hy)⟩
theorem UF.aug {n : Int} {A B : List (List Int)} (aA : Aug n A) (aB : Aug n B) {S T : List Int} (hS : UF n A B S) (hT : UF n A B T) (lt : S.length < T.length) : ∃ z ∈ T, ¬ z ∈ S ∧ UF n A B (ins S z) := by
  obtain ⟨a, b, fa, fb, dj, sm, ll⟩ := hS.parts
  obtain ⟨j1, j2, f1, f2, dk, sm2, ll2⟩ := hT.parts
  obtain ⟨z, h1, h2, h3, a', b', g1, g2, g3⟩ := un_aug aA aB f1 f2 dk _ (Nat.le_refl _) fa fb dj (by omega)
  have hz : z ∈ T := (sm2 z).mp h1
  have nz : ¬ z ∈ S := fun q => ((sm z).mpr q).elim h2 h3
  obtain ⟨l1, m1, s1⟩ := g1.2
  obtain ⟨l2, m2, s2⟩ := g2.2
  refine ⟨z, hz, nz, ins_asc hS.1 nz (hT.1.2 z hz), l1, m1, l2, m2, fun y hy => ?_⟩
  have : y ∈ a' ∨ y ∈ b' := (g3 y).mpr (by
    rcases mem_ins.mp hy with q | q
    · exact ((sm y).mpr q).elim .inl fun z => .inr (.inl z)
    · exact .inr (.inr q))
  exact this.elim (fun q => .inl (s1 y q)) fun q => .inr (s2 y q)
/-- up to a set with as many things as that one -/
theorem UF.up {n : Int} {A B : List (List Int)} (aA : Aug n A) (aB : Aug n B) {T : List Int} (hT : UF n A B T) : ∀ (k : Nat) {S : List Int}, T.length - S.length = k → UF n A B S → S.length ≤ T.length → ∃ R, UF n A B R ∧ (∀ y ∈ S, y ∈ R) ∧ R.length = T.length := by
  intro k
  induction k with
  | zero => exact fun {S} hk hS le => ⟨S, hS, fun y hy => hy, by omega⟩
  | succ k ih =>
    intro S hk hS le
    obtain ⟨z, hz, nz, h⟩ := UF.aug aA aB hS hT (by omega)
    obtain ⟨R, r1, r2, r3⟩ := ih (S := ins S z) (by rw [ins_len]; omega) h (by rw [ins_len]; omega)
    exact ⟨R, r1, fun y hy => r2 y (mem_ins.mpr (.inl hy)), r3⟩
end LW
set_option Elab.async false
set_option maxRecDepth 100000
set_option linter.all false
set_option maxHeartbeats 2000000
namespace LW
open PySem PySem.Spec PyProof.Rows L2 PD
def unK (A B acc : List (List Int)) : List (List Int) := A.foldl (fun acc a => (B.map (uni a)).foldl insK acc) acc
theorem mem_unK {B : List (List Int)} {k : List Int} : ∀ {A acc : List (List Int)}, k ∈ unK A B acc ↔ k ∈ acc ∨ ∃ a ∈ A, ∃ b ∈ B, uni a b = k
  | [], acc => by simp [unK]
  | a :: A, acc => by
    show k ∈ unK A B ((B.map (uni a)).foldl insK acc) ↔ _
    rw [mem_unK, mem_foldK, List.mem_map]
    constructor
    · rintro ((h | h) | ⟨x, hx, h⟩)
      · exact .inl h
      · exact .inr ⟨a, List.mem_cons_self, h⟩
      · exact .inr ⟨x, List.mem_cons_of_mem _ hx, h⟩
    · rintro (h | ⟨x, hx, h⟩)
      · exact .inl (.inl h)
      · rcases List.mem_cons.mp hx with rfl | hx
        · exact .inl (.inr h)
        · exact .inr ⟨x, hx, h⟩
theorem unK_nodup {B : List (List Int)} : ∀ {A acc : List (List Int)}, acc.Nodup → (unK A B acc).Nodup
  | [], _, h => h
  | a :: A, acc, h => unK_nodup (A := A) (nodup_insK h)
def unL (A B : List (List Int)) : List (List Int) := sortT (unK A B [])
theorem mem_unL {A B : List (List Int)} {k : List Int} : k ∈ unL A B ↔ ∃ a ∈ A, ∃ b ∈ B, uni a b = k := by
  unfold unL
  rw [mem_sortT, mem_unK]
  simp
theorem unL_asd (A B : List (List Int)) : Asd (unL A B) := asd_sortT (unK_nodup .nil)
def mostL (U : List (List Int)) : Int := maxI (U.map fun l => (l.length : Int))
def togL (A B : List (List Int)) : List (List Int) := (unL A B).filter fun l => decide ((l.length : Int) = mostL (unL A B))
section
variable {n : Int} {A B : List (List Int)}
theorem unL_ne (a : A ≠ []) (b : B ≠ []) : unL A B ≠ [] := by
  obtain ⟨x, hx⟩ := List.exists_mem_of_ne_nil A a
  obtain ⟨y, hy⟩ := List.exists_mem_of_ne_nil B b
  exact List.ne_nil_of_mem (mem_unL.mpr ⟨x, hx, y, hy, rfl⟩)
theorem unL_asc (hA : ∀ l ∈ A, Asc n l) (hB : ∀ l ∈ B, Asc n l) : ∀ l ∈ unL A B, Asc n l := fun l hl => by
  obtain ⟨a, ha, b, hb, rfl⟩ := mem_unL.mp hl
  exact uni_asc (hA a ha) (hB b hb)
theorem unL_le {l : List Int} (hl : l ∈ unL A B) : (l.length : Int) ≤ mostL (unL A B) := le_maxI (List.mem_map.mpr ⟨l, hl, rfl⟩)
theorem most_at (h : unL A B ≠ []) : ∃ l ∈ unL A B, (l.length : Int) = mostL (unL A B) := by
  have := maxI_mem (ns := (unL A B).map fun l => (l.length : Int)) (List.length_pos_iff.mpr (by simpa using h))
  obtain ⟨l, hl, e⟩ := List.mem_map.mp this
  exact ⟨l, hl, e⟩
theorem uf_le (hA : ∀ l ∈ A, Asc n l) (hB : ∀ l ∈ B, Asc n l) {S : List Int} (h : UF n A B S) : ∃ U ∈ unL A B, (∀ y ∈ S, y ∈ U) ∧ S.length ≤ U.length ∧ (S.length : Int) ≤ mostL (unL A B) := by
  obtain ⟨aS, a, ha, b, hb, h⟩ := h
  have hU : uni a b ∈ unL A B := mem_unL.mpr ⟨a, ha, b, hb, rfl⟩
  have sub : ∀ y ∈ S, y ∈ uni a b := fun y hy => mem_uni.mpr (h y hy)
  have le := sub_len aS.1 (uni_asc (hA a ha) (hB b hb)).1 sub
  have := unL_le hU
  exact ⟨_, hU, sub, le, by omega⟩
theorem uf_of {U : List Int} (hA : ∀ l ∈ A, Asc n l) (hB : ∀ l ∈ B, Asc n l) (hU : U ∈ unL A B) : UF n A B U := by
  obtain ⟨a, ha, b, hb, rfl⟩ := mem_unL.mp hU
  exact ⟨uni_asc (hA a ha) (hB b hb), a, ha, b, hb, fun y hy => mem_uni.mp hy⟩
theorem tog_free (sA : Smooth n A) (sB : Smooth n B) {S : List Int} : Free n (togL A B) S ↔ UF n A B S := by
  have hA := sA.good.asc
  have hB := sB.good.asc
  constructor
  · rintro ⟨aS, l, hl, h⟩
    exact (uf_of hA hB (List.mem_filter.mp hl).1).sub aS h
  · intro hS
    obtain ⟨T, hT, eT⟩ := most_at (unL_ne sA.good.ne sB.good.ne)
    obtain ⟨_, _, _, _, le⟩ := uf_le hA hB hS
    obtain ⟨R, r1, r2, r3⟩ := UF.up (aug_smooth sA) (aug_smooth sB) (uf_of hA hB hT) (T.length - S.length) rfl hS (by omega)
    obtain ⟨U, hU, u1, u2, _⟩ := uf_le hA hB r1
    have u3 := unL_le hU
    have e : R = U := asc_full r1.1 (unL_asc hA hB U hU) (by omega) u1
    subst e
    exact ⟨hS.1, R, List.mem_filter.mpr ⟨hU, decide_eq_true (by omega)⟩, r2⟩
theorem tog_eq {l : List Int} (hl : l ∈ togL A B) : (l.length : Int) = mostL (unL A B) := of_decide_eq_true (List.mem_filter.mp hl).2
theorem tog_smooth (sA : Smooth n A) (sB : Smooth n B) (h0 : 0 ≤ n) (h1 : n ≤ 9) : Smooth n (togL A B) := by
  have hA := sA.good.asc
  have hB := sB.good.asc
  have asc : ∀ l ∈ togL A B, Asc n l := fun l hl => unL_asc hA hB l (List.mem_filter.mp hl).1
  have asd : Asd (togL A B) := (unL_asd A B).filter _
  obtain ⟨T, hT, eT⟩ := most_at (unL_ne sA.good.ne sB.good.ne)
  have good : Good n (togL A B) := ⟨asc, asd, List.ne_nil_of_mem (List.mem_filter.mpr ⟨hT, decide_eq_true eT⟩), by
    obtain ⟨rows, _, mr, lr, _⟩ := v_parts2 n h0 (by omega)
    have a := nodup_len (ys := rows) asd.nodup fun S hS => (mr S).mpr (asc S hS)
    have b : 2 ^ n.toNat ≤ 2 ^ 9 := Nat.pow_le_pow_right (by decide) (by omega)
    omega⟩
  have A' : Aug n (togL A B) := fun a b fa fb lt => by
    obtain ⟨z, hz, nz, h⟩ := UF.aug (aug_smooth sA) (aug_smooth sB) ((tog_free sA sB).mp fa) ((tog_free sA sB).mp fb) lt
    exact ⟨z, hz, nz, (tog_free sA sB).mpr h⟩
  have eqs : ∀ a ∈ togL A B, ∀ b ∈ togL A B, a.length = b.length := fun a ha b hb => by
    have := tog_eq ha
    have := tog_eq hb
    omega
  exact ⟨good, exc_of_aug good (fun a ha b hb h => asc_full (asc a ha) (asc b hb) (eqs a ha b hb) h) A', eqs⟩
end
end LW
set_option Elab.async false
set_option linter.all false
set_option maxRecDepth 100000
set_option maxHeartbeats 4000000
set_option Elab.async false
set_option maxRecDepth 100000
set_option linter.all false
set_option maxHeartbeats 2000000
namespace LW
open PySem PySem.Spec PyProof.Rows L2 PD
def cntB (S : List Int) (a b : Int) : Nat := (S.filter fun x => decide (a ≤ x) && decide (x < b)).length
/-- the groups as triples: where they start, how many things they have, how many of them a set has -/
def trip07 : Int → List (Int × Int) → List (Int × Int × Int)
  | _, [] => []
  | st, (c, k) :: G => (st, c, k) :: trip07 (st + c) G
def fit07 (T : List (Int × Int × Int)) (S : List Int) : Bool := T.all fun t => decide ((cntB S t.1 (t.1 + t.2.1) : Int) = t.2.2)
def tot07 (G : List (Int × Int)) : Int := (G.map (·.1)).sum
def Grp (G : List (Int × Int)) : Prop := ∀ p ∈ G, 0 ≤ p.1 ∧ p.1 ≤ 3 ∧ 0 ≤ p.2 ∧ p.2 ≤ p.1
theorem Grp.tot {G : List (Int × Int)} (h : Grp G) : 0 ≤ tot07 G ∧ tot07 G ≤ 3 * (G.length : Int) := by
  induction G with
  | nil => exact ⟨Int.le_refl _, by simp [tot07]⟩
  | cons p G ih =>
    have hp := h p List.mem_cons_self
    have := ih fun q hq => h q (List.mem_cons_of_mem _ hq)
    unfold tot07 at this ⊢
    rw [List.map_cons, List.sum_cons, List.length_cons]
    push_cast
    omega
theorem tot_snoc {G : List (Int × Int)} {p : Int × Int} : tot07 (G ++ [p]) = tot07 G + p.1 := by
  unfold tot07
  rw [List.map_append, List.sum_append]
  simp
theorem trip_snoc : ∀ {G : List (Int × Int)} {st : Int} {p : Int × Int}, trip07 st (G ++ [p]) = trip07 st G ++ [(st + tot07 G, p.1, p.2)]
  | [], st, p => by simp [trip07, tot07]
  | q :: G, st, p => by
    show (st, q.1, q.2) :: trip07 (st + q.1) (G ++ [p]) = _
    rw [trip_snoc]
    show _ = (st, q.1, q.2) :: (trip07 (st + q.1) G ++ [(st + tot07 (q :: G), p.1, p.2)])
    have : st + q.1 + tot07 G = st + tot07 (q :: G) := by
      unfold tot07
      rw [List.map_cons, List.sum_cons]
      omega
    rw [this]
theorem trip_in {G : List (Int × Int)} (h : Grp G) : ∀ {st : Int} {t : Int × Int × Int}, t ∈ trip07 st G → st ≤ t.1 ∧ t.1 + t.2.1 ≤ st + tot07 G ∧ 0 ≤ t.2.1 := by
  induction G with
  | nil => intro st t ht; cases ht
  | cons p G ih =>
    intro st t ht
    have hp := h p List.mem_cons_self
    have hG : Grp G := fun q hq => h q (List.mem_cons_of_mem _ hq)
    have tt := hG.tot
    have e : tot07 (p :: G) = p.1 + tot07 G := by
      unfold tot07
      rw [List.map_cons, List.sum_cons]
    rcases List.mem_cons.mp ht with rfl | ht
    · exact ⟨Int.le_refl _, by show st + p.1 ≤ _; omega, hp.1⟩
    · have := ih hG ht
      omega
theorem cnt_app {A B : List Int} {a b : Int} : cntB (A ++ B) a b = cntB A a b + cntB B a b := by
  unfold cntB
  rw [List.filter_append, List.length_append]
theorem cnt_none {A : List Int} {a b : Int} (h : ∀ x ∈ A, ¬ (a ≤ x ∧ x < b)) : cntB A a b = 0 := by
  unfold cntB
  rw [List.filter_eq_nil_iff.mpr fun x hx => by simpa using h x hx]
  rfl
theorem cnt_all {A : List Int} {a b : Int} (h : ∀ x ∈ A, a ≤ x ∧ x < b) : cntB A a b = A.length := by
  unfold cntB
  rw [List.filter_eq_self.mpr fun x hx => by simpa using h x hx]
/-- an ascending row is cut at a number -/
theorem asc_cut {S : List Int} (h : S.Pairwise (· < ·)) (m : Int) : S = S.filter (fun x => decide (x < m)) ++ S.filter (fun x => !decide (x < m)) := by
  refine asc_ext h ?_ fun y => ?_
  · rw [List.pairwise_append]
    refine ⟨h.sublist List.filter_sublist, h.sublist List.filter_sublist, fun a ha b hb => ?_⟩
    have h1 := (List.mem_filter.mp ha).2
    have h2 := (List.mem_filter.mp hb).2
    simp at h1 h2
    omega
  · rw [List.mem_append, List.mem_filter, List.mem_filter]
    constructor
    · intro hy
      by_cases q : y < m
      · exact .inl ⟨hy, by simpa using q⟩
      · exact .inr ⟨hy, by simpa using q⟩
    · rintro (z | z) <;> exact z.1
/-- the lots behind some groups -/
structure P07 (G : List (Int × Int)) (Ls : List (List Int)) : Prop where
  nd : Ls.Nodup
  mem : ∀ S, S ∈ Ls ↔ Asc (tot07 G) S ∧ fit07 (trip07 0 G) S = true
  ne : Ls ≠ []
  eqs : ∀ S ∈ Ls, ∀ S' ∈ Ls, S.length = S'.length
theorem P07.start : P07 [] [[]] := ⟨by simp, fun S => by
  have e : tot07 [] = 0 := rfl
  rw [List.mem_singleton, e]
  constructor
  · rintro rfl; exact ⟨Asc.nil 0, rfl⟩
  · rintro ⟨h, _⟩
    cases S with
    | nil => rfl
    | cons x S => have := h.2 x List.mem_cons_self; omega, by simp, fun S hS S' hS' => by rw [List.mem_singleton.mp hS, List.mem_singleton.mp hS']⟩
def next07 (st c k : Int) (Ls : List (List Int)) : List (List Int) := Ls.flatMap fun A => (combs k.toNat (rangeI st (st + c))).map fun B => A ++ B
theorem mem_combsR {st c k : Int} {B : List Int} : B ∈ combs k.toNat (rangeI st (st + c)) ↔ (B.Pairwise (· < ·) ∧ ∀ x ∈ B, st ≤ x ∧ x < st + c) ∧ B.length = k.toNat := by
  rw [mem_combs (rangeI_asc _ _)]
  constructor
  · exact fun ⟨a, b, c⟩ => ⟨⟨a, fun x hx => mem_rangeI.mp (b x hx)⟩, c⟩
  · exact fun ⟨⟨a, b⟩, c⟩ => ⟨a, fun x hx => mem_rangeI.mpr (b x hx), c⟩
theorem P07.step {G : List (Int × Int)} {Ls : List (List Int)} (hG : Grp G) (P : P07 G Ls) {c k : Int} (hp : 0 ≤ c ∧ c ≤ 3 ∧ 0 ≤ k ∧ k ≤ c) : P07 (G ++ [(c, k)]) (next07 (tot07 G) c k Ls) := by
  have ht := hG.tot
  have low : ∀ A ∈ Ls, ∀ x ∈ A, 0 ≤ x ∧ x < tot07 G := fun A hA x hx => ((P.mem A).mp hA).1.2 x hx
  have split : ∀ {A B : List Int}, (∀ x ∈ A, x < tot07 G) → (∀ x ∈ B, tot07 G ≤ x) → (A ++ B).filter (fun x => decide (x < tot07 G)) = A := fun {A B} hA hB => by
    rw [List.filter_append, List.filter_eq_self.mpr fun x hx => by simpa using hA x hx, List.filter_eq_nil_iff.mpr fun x hx => by have := hB x hx; simp; omega, List.append_nil]
  refine ⟨?_, fun S => ?_, ?_, ?_⟩
  · unfold next07
    unfold List.Nodup
    rw [List.pairwise_flatMap]
    refine ⟨fun A hA => List.pairwise_map.mpr ((combs_asd (rangeI_asc _ _)).nodup.imp fun {a b} h z => h (List.append_cancel_left z)), P.nd.imp_of_mem fun {A A'} hA hA' ne x hx y hy e => ne ?_⟩
    obtain ⟨B, hB, rfl⟩ := List.mem_map.mp hx
    obtain ⟨B', hB', rfl⟩ := List.mem_map.mp hy
    have e1 := split (A := A) (B := B) (fun x hx => (low A hA x hx).2) fun x hx => ((mem_combsR.mp hB).1.2 x hx).1
    have e2 := split (A := A') (B := B') (fun x hx => (low A' hA' x hx).2) fun x hx => ((mem_combsR.mp hB').1.2 x hx).1
    rw [e] at e1
    exact e1.symm.trans e2
  · unfold next07
    rw [tot_snoc, trip_snoc]
    show _ ↔ Asc (tot07 G + c) S ∧ _
    have e0 : (0 : Int) + tot07 G = tot07 G := by omega
    rw [e0]
    have fa : ∀ S, fit07 (trip07 0 G ++ [(tot07 G, c, k)]) S = true ↔ fit07 (trip07 0 G) S = true ∧ (cntB S (tot07 G) (tot07 G + c) : Int) = k := fun S => by
      unfold fit07
      rw [List.all_append, Bool.and_eq_true]
      simp
    rw [fa]
    have keep : ∀ {A B : List Int}, (∀ x ∈ B, tot07 G ≤ x) → fit07 (trip07 0 G) (A ++ B) = fit07 (trip07 0 G) A := fun {A B} hB => by
      unfold fit07
      have cg : ∀ t ∈ trip07 0 G, cntB (A ++ B) t.1 (t.1 + t.2.1) = cntB A t.1 (t.1 + t.2.1) := fun t ht => by
        have := trip_in hG ht
        rw [cnt_app, cnt_none (A := B) fun x hx z => by have := hB x hx; omega]
        rfl
      rw [Bool.eq_iff_iff, List.all_eq_true, List.all_eq_true]
      exact ⟨fun h t ht => by rw [← cg t ht]; exact h t ht, fun h t ht => by rw [cg t ht]; exact h t ht⟩
    constructor
    · intro h
      obtain ⟨A, hA, hx⟩ := List.mem_flatMap.mp h
      obtain ⟨B, hB, rfl⟩ := List.mem_map.mp hx
      obtain ⟨aA, fA⟩ := (P.mem A).mp hA
      obtain ⟨⟨pB, bB⟩, lB⟩ := mem_combsR.mp hB
      refine ⟨⟨?_, fun x hx => ?_⟩, ?_, ?_⟩
      · rw [List.pairwise_append]
        exact ⟨aA.1, pB, fun a ha b hb => by have := aA.2 a ha; have := bB b hb; omega⟩
      · rcases List.mem_append.mp hx with z | z
        · have := aA.2 x z; omega
        · have := bB x z; omega
      · rw [keep fun x hx => (bB x hx).1]; exact fA
      · rw [cnt_app, cnt_none (A := A) fun x hx z => by have := aA.2 x hx; omega, cnt_all bB, lB]
        omega
    · rintro ⟨aS, fS, cS⟩
      have es := asc_cut aS.1 (tot07 G)
      have hB : ∀ x ∈ S.filter (fun x => !decide (x < tot07 G)), tot07 G ≤ x := fun x hx => by
        have := (List.mem_filter.mp hx).2
        simp at this
        exact this
      have hA : ∀ x ∈ S.filter (fun x => decide (x < tot07 G)), x < tot07 G := fun x hx => by simpa using (List.mem_filter.mp hx).2
      refine List.mem_flatMap.mpr ⟨S.filter (fun x => decide (x < tot07 G)), (P.mem _).mpr ⟨⟨aS.1.sublist List.filter_sublist, fun x hx => ⟨(aS.2 x (List.mem_filter.mp hx).1).1, hA x hx⟩⟩, ?_⟩, List.mem_map.mpr ⟨S.filter (fun x => !decide (x < tot07 G)), mem_combsR.mpr ⟨⟨aS.1.sublist List.filter_sublist, fun x hx => ⟨hB x hx, (aS.2 x (List.mem_filter.mp hx).1).2⟩⟩, ?_⟩, es.symm⟩⟩
      · rw [es, keep hB] at fS; exact fS
      · rw [es, cnt_app, cnt_none (A := S.filter fun x => decide (x < tot07 G)) fun x hx z => by have := hA x hx; omega, cnt_all fun x hx => ⟨hB x hx, (aS.2 x (List.mem_filter.mp hx).1).2⟩] at cS
        omega
  · obtain ⟨A, hA⟩ := List.exists_mem_of_ne_nil Ls P.ne
    have hB : rangeI (tot07 G) (tot07 G + k) ∈ combs k.toNat (rangeI (tot07 G) (tot07 G + c)) := mem_combsR.mpr ⟨⟨rangeI_asc _ _, fun x hx => by have := mem_rangeI.mp hx; omega⟩, by rw [rangeI_len]; omega⟩
    exact List.ne_nil_of_mem (List.mem_flatMap.mpr ⟨A, hA, List.mem_map.mpr ⟨_, hB, rfl⟩⟩)
  · intro S hS S' hS'
    obtain ⟨A, hA, hx⟩ := List.mem_flatMap.mp hS
    obtain ⟨B, hB, rfl⟩ := List.mem_map.mp hx
    obtain ⟨A', hA', hx'⟩ := List.mem_flatMap.mp hS'
    obtain ⟨B', hB', rfl⟩ := List.mem_map.mp hx'
    rw [List.length_append, List.length_append, P.eqs A hA A' hA', (mem_combsR.mp hB).2, (mem_combsR.mp hB').2]
end LW
set_option Elab.async false
set_option maxRecDepth 100000
set_option linter.all false
set_option maxHeartbeats 2000000
set_option Elab.async false
set_option maxRecDepth 100000
set_option linter.all false
set_option maxHeartbeats 2000000
namespace LW
open PySem PySem.Spec PyProof.Rows L2 PD
theorem P07.few {G : List (Int × Int)} {Ls : List (List Int)} (hG : Grp G) (P : P07 G Ls) (h3 : G.length ≤ 3) : Ls.length ≤ 512 := by
  have tt := hG.tot
  obtain ⟨rows, _, mr, lr, _⟩ := v_parts2 (tot07 G) tt.1 (by omega)
  have a := nodup_len (ys := rows) P.nd fun S hS => (mr S).mpr ((P.mem S).mp hS).1
  have b : 2 ^ (tot07 G).toNat ≤ 2 ^ 9 := Nat.pow_le_pow_right (by decide) (by omega)
  omega
end LW
set_option Elab.async false
set_option maxRecDepth 100000
set_option linter.all false
set_option maxHeartbeats 2000000
namespace LW
open PySem PySem.Spec PyProof.Rows L2 PD
theorem small_rows {n : Int} (h0 : 0 ≤ n) (h1 : n ≤ 5) {ks : List (List Int)} (nd : ks.Nodup) (h : ∀ k ∈ ks, Asc n k) : ks.length ≤ 32 := by
  obtain ⟨rows, _, mr, lr, _⟩ := v_parts2 n h0 (by omega)
  have a := nodup_len (ys := rows) nd fun S hS => (mr S).mpr (h S hS)
  have b : 2 ^ n.toNat ≤ 2 ^ 5 := Nat.pow_le_pow_right (by decide) (by omega)
  omega
section
variable {n : Int} {A B : List (List Int)}
theorem dc2_un {x y : Option Sl} : ∀ {A acc : List (List Int)}, (∀ a ∈ A, ∀ b ∈ B, a.length + b.length < 60) →
    dc2Go (.nm 4) dYes (dItems (dTwo oIx (dVar 1) (dC (.int 1)))) (.nm 5) dYes (dArg m_union (dCons (dVar 4) (dCons (dVar 5) dNil))) [5] [x, some (.d (ofr n B)), none, none, none, none, y] (A.map tu) acc = .ok (unK A B acc)
  | [], acc, _ => rfl
  | a :: A, acc, h => by
    rw [List.map_cons]
    have e1 : (dItems (dTwo oIx (dVar 1) (dC (.int 1)))) [x, some (.d (ofr n B)), none, none, some (.d (tu a)), none, y] = .ok (B.map tu) := rfl
    have e2 : dcGo (.nm 5) dYes (dArg m_union (dCons (dVar 4) (dCons (dVar 5) dNil))) [x, some (.d (ofr n B)), none, none, some (.d (tu a)), none, y] (B.map tu) acc = .ok ((B.map (uni a)).foldl insK acc) :=
      dcGo_all (enc := tu) (kf := uni a) (i := 5) (fk := dArg m_union (dCons (dVar 4) (dCons (dVar 5) dNil))) (xs := B) (acc := acc) (fun b hb => by simp [v_union4 a b (h a List.mem_cons_self b hb)])
    have ih := dc2_un (A := A) (acc := (B.map (uni a)).foldl insK acc) (x := x) (y := y) fun a' ha b hb => h a' (List.mem_cons_of_mem _ ha) b hb
    have st : dc2Go (.nm 4) dYes (dItems (dTwo oIx (dVar 1) (dC (.int 1)))) (.nm 5) dYes (dArg m_union (dCons (dVar 4) (dCons (dVar 5) dNil))) [5] [x, some (.d (ofr n B)), none, none, none, none, y] (tu a :: A.map tu) acc = nx ((dItems (dTwo oIx (dVar 1) (dC (.int 1)))) [x, some (.d (ofr n B)), none, none, some (.d (tu a)), none, y]) (fun es => nx (dcGo (.nm 5) dYes (dArg m_union (dCons (dVar 4) (dCons (dVar 5) dNil))) [x, some (.d (ofr n B)), none, none, some (.d (tu a)), none, y] es acc) fun acc' => dc2Go (.nm 4) dYes (dItems (dTwo oIx (dVar 1) (dC (.int 1)))) (.nm 5) dYes (dArg m_union (dCons (dVar 4) (dCons (dVar 5) dNil))) [5] [x, some (.d (ofr n B)), none, none, none, none, y] (A.map tu) acc') := by
      conv => lhs; unfold dc2Go
      rw [set_nm]
      rfl
    rw [st, e1, nx_ok', e2, nx_ok', ih]
    rfl
theorem lens_lc {fi : DnL} {i : Nat} {ρ : Rho} {U : List (List Int)} (hi : fi ρ = .ok (U.map tu)) (hl : i < ρ.length) : dLc fi (.nm i) dYes (dArg bLen (dCons (dVar i) dNil)) [i] ρ = .ok (li (U.map fun l => (l.length : Int))) := by
  have r := lc_of (enc := tu) (fi := fi) (t := .nm i) (ft := dYes) (fe := dArg bLen (dCons (dVar i) dNil)) (vs := [i]) (ρ := ρ) (xs := U) (st := fun k => (wipeR ρ [i]).set i (some (.d (tu k)))) (q := fun _ => true) (g := fun l => PyData.int (l.length : Int)) hi (fun k hk => ⟨by simp, rfl, fun _ => by
    have : (ρ.set i (some (.d (tu k))))[i]? = some (some (.d (tu k))) := List.getElem?_set_self hl
    simp [this]⟩)
  rw [List.filter_eq_self.mpr (fun _ _ => rfl)] at r
  rw [r]
  simp
theorem v_things (ls : List (List Int)) (hne : ls ≠ []) : m_things_in_a_lot [ofr n ls] = .ok (.int (ixr ls 0).length) := by
  show endR (g_things_in_a_lot [some (.d (ofr n ls))]) = _
  have i1 : oIx (ofr n ls) (.int 1) = .ok (tt ls) := rfl
  have i0 : oIx (tt ls) (.int 0) = .ok (tu (ixr ls 0)) := ix_tt (by decide) (by have := List.length_pos_iff.mpr hne; omega)
  simp [g_things_in_a_lot, i1, i0]
theorem head_mem {ls : List (List Int)} (hne : ls ≠ []) : ixr ls 0 ∈ ls := ixr_mem (by decide) (by have := List.length_pos_iff.mpr hne; omega)
end
end LW
set_option Elab.async false
set_option linter.all false
set_option maxRecDepth 100000
set_option maxHeartbeats 4000000
namespace LW
open PySem PySem.Spec PyProof.Rows L2 PD
section
variable {n : Int} {A B : List (List Int)}
theorem two_out {ks : List (List Int)} (nd : ks.Nodup) (h : ∀ k ∈ ks, Asc 6 k) {e1 e2 : List Int} (a1 : Asc 6 e1) (a2 : Asc 6 e2) (ne : ¬ e1 = e2) (n1 : ¬ e1 ∈ ks) (n2 : ¬ e2 ∈ ks) : ks.length ≤ 62 := by
  obtain ⟨rows, _, mr, lr, _⟩ := v_parts2 6 (by decide) (by decide)
  have nd2 : (e1 :: e2 :: ks).Nodup := List.nodup_cons.mpr ⟨fun m => (List.mem_cons.mp m).elim ne n1, List.nodup_cons.mpr ⟨n2, nd⟩⟩
  have := nodup_le50 (k := rows) nd2 fun x hx => (mr x).mpr (by
    rcases List.mem_cons.mp hx with rfl | hx
    · exact a1
    · rcases List.mem_cons.mp hx with rfl | hx
      · exact a2
      · exact h x hx)
  rw [lr, List.length_cons, List.length_cons] at this
  have e : 2 ^ (6 : Int).toNat = 64 := rfl
  omega
theorem asc6 {l : List Int} (h1 : l.Pairwise (· < ·)) (h2 : l.all (fun x => decide (0 ≤ x ∧ x < 6)) = true) : Asc 6 l := ⟨h1, fun x hx => by simpa using List.all_eq_true.mp h2 x hx⟩
theorem small62 (sA : Smooth n A) (sB : Smooth n B) (h0 : 0 ≤ n) (h1 : n ≤ 6) : (unK A B []).length ≤ 62 := by
  have hA := sA.good.asc
  have hB := sB.good.asc
  have memK : ∀ k, k ∈ unK A B [] ↔ ∃ a ∈ A, ∃ b ∈ B, uni a b = k := fun k => by rw [mem_unK]; simp
  have nd : (unK A B []).Nodup := unK_nodup .nil
  have ascK : ∀ k ∈ unK A B [], Asc n k := fun k hk => by
    obtain ⟨a, ha, b, hb, rfl⟩ := (memK k).mp hk
    exact uni_asc (hA a ha) (hB b hb)
  by_cases c : n ≤ 5
  · have := small_rows h0 c nd ascK
    omega
  · have e6 : n = 6 := by omega
    subst e6
    have len : ∀ k ∈ unK A B [], ((ixr A 0).length ≤ k.length ∧ (ixr B 0).length ≤ k.length) ∧ k.length ≤ (ixr A 0).length + (ixr B 0).length := fun k hk => by
      obtain ⟨a, ha, b, hb, rfl⟩ := (memK k).mp hk
      have la : a.length = (ixr A 0).length := sA.eqs _ ha _ (head_mem sA.good.ne)
      have lb : b.length = (ixr B 0).length := sB.eqs _ hb _ (head_mem sB.good.ne)
      have au := uni_asc (hA a ha) (hB b hb)
      have s1 := sub_len (hA a ha).1 au.1 fun y hy => mem_uni.mpr (.inl hy)
      have s2 := sub_len (hB b hb).1 au.1 fun y hy => mem_uni.mpr (.inr hy)
      have s3 := nodup_le50 (k := a ++ b) (nd_asc au.1) fun y hy => List.mem_append.mpr (mem_uni.mp hy)
      rw [List.length_append] at s3
      omega
    have out : ∀ e : List Int, (e.length < (ixr A 0).length ∨ e.length < (ixr B 0).length ∨ (ixr A 0).length + (ixr B 0).length < e.length) → ¬ e ∈ unK A B [] := fun e h m => by
      have := len e m
      omega
    have a0 : Asc 6 [] := asc6 (by decide) rfl
    have a1 : Asc 6 [0] := asc6 (by decide) rfl
    have a2 : Asc 6 [1] := asc6 (by decide) rfl
    have a6 : Asc 6 [0, 1, 2, 3, 4, 5] := asc6 (by decide) rfl
    by_cases z : (ixr A 0).length + (ixr B 0).length = 0
    · exact two_out nd ascK a1 a2 (by decide) (out _ (.inr (.inr (by rw [z]; decide)))) (out _ (.inr (.inr (by rw [z]; decide))))
    · have o0 : ¬ [] ∈ unK A B [] := out _ (by rw [List.length_nil]; omega)
      by_cases w : (ixr A 0).length + (ixr B 0).length < 6
      · exact two_out nd ascK a0 a6 (by decide) o0 (out _ (.inr (.inr w)))
      · exact two_out nd ascK a0 a1 (by decide) o0 (out _ (by rw [List.length_singleton]; omega))
theorem v_together6 (sA : Smooth n A) (sB : Smooth n B) (h0 : 0 ≤ n) (h1 : n ≤ 6) : m_together [ofr n A, ofr n B] = .ok (ofr n (togL A B)) := by
  show endR (g_together [some (.d (ofr n A)), some (.d (ofr n B)), none, none, none, none, none]) = _
  have hA := sA.good.asc
  have hB := sB.good.asc
  have memK : ∀ k, k ∈ unK A B [] ↔ k ∈ unL A B := fun k => by unfold unL; rw [mem_sortT]
  have ascK : ∀ k ∈ unK A B [], Asc n k := fun k hk => unL_asc hA hB k ((memK k).mp hk)
  have few := small62 sA sB h0 h1
  have sc := sortSc2_ok (fi := dItems (dTwo oIx (dVar 0) (dC (.int 1)))) (t := .nm 4) (ft := dYes) (fi1 := dItems (dTwo oIx (dVar 1) (dC (.int 1)))) (t1 := .nm 5) (ft1 := dYes) (fe := dArg m_union (dCons (dVar 4) (dCons (dVar 5) dNil))) (vs := [4, 5]) (vs1 := [5]) (ρ := [some (.d (ofr n A)), some (.d (ofr n B)), none, none, none, none, none]) (ds := A.map tu) (ks := unK A B []) rfl (dc2_un fun a ha b hb => by have := (hA a ha).len; have := (hB b hb).len; omega) (by omega) (fun k hk => by have := (ascK k hk).len; omega)
  have eU : sortT (unK A B []) = unL A B := rfl
  rw [eU] at sc
  have U0 := unL_ne (A := A) (B := B) sA.good.ne sB.good.ne
  have lm := lens_lc (fi := dItems (dVar 2)) (i := 6) (ρ := [some (.d (ofr n A)), some (.d (ofr n B)), some (.d (lt (unL A B))), none, none, none, none]) (U := unL A B) (by simp) (by show 6 < 7; decide)
  have bm : bMax [li ((unL A B).map fun l => (l.length : Int))] = .ok (.int (mostL (unL A B))) := bMax_li (by simpa using U0)
  have lf := lc_of (enc := tu) (fi := dItems (dVar 2)) (t := .nm 6) (ft := dAsB (dTwo oEq (dArg bLen (dCons (dVar 6) dNil)) (dVar 3))) (fe := dVar 6) (vs := [6]) (ρ := [some (.d (ofr n A)), some (.d (ofr n B)), some (.d (lt (unL A B))), some (.d (.int (mostL (unL A B)))), none, none, none]) (xs := unL A B) (st := fun k => [some (.d (ofr n A)), some (.d (ofr n B)), some (.d (lt (unL A B))), some (.d (.int (mostL (unL A B)))), none, none, some (.d (tu k))]) (q := fun l => decide ((l.length : Int) = mostL (unL A B))) (g := tu) (by simp) (fun k hk => ⟨rfl, by simp; rfl, fun _ => by simp⟩)
  have el : PyData.list (((unL A B).filter fun l => decide ((l.length : Int) = mostL (unL A B))).map tu) = lt (togL A B) := rfl
  rw [el] at lf
  have bt := bTuple_lt (togL A B)
  have i0 : oIx (ofr n A) (.int 0) = .ok (.int n) := rfl
  have ot : PyData.tuple [.int n, tt (togL A B)] = ofr n (togL A B) := rfl
  generalize lt (unL A B) = W1 at *
  generalize lt (togL A B) = W2 at *
  generalize tt (togL A B) = W3 at *
  generalize ofr n (togL A B) = W4 at *
  generalize li ((unL A B).map fun l => (l.length : Int)) = W5 at *
  generalize ofr n A = W6 at *
  generalize ofr n B = W7 at *
  unfold g_together
  rw [ev_seq, ev_set, sc]
  show endR ((gSeq (gSet (dArg bMax (dCons (dLc (dItems (dVar 2)) (.nm 6) dYes (dArg bLen (dCons (dVar 6) dNil)) [6]) dNil)) (.nm 3)) _) [some (.d W6), some (.d W7), some (.d W1), none, none, none, none]) = _
  simp [-ev_lc]
  rw [lm]
  simp [bm, -ev_lc]
  rw [lf]
  simp [bt, i0, ot]
theorem v_spare6 (sA : Smooth n A) (sB : Smooth n B) (h0 : 0 ≤ n) (h1 : n ≤ 6) : m_spare [ofr n A, ofr n B] = .ok (.int ((ixr A 0).length + (ixr B 0).length - mostL (unL A B))) := by
  show endR (g_spare [some (.d (ofr n A)), some (.d (ofr n B))]) = _
  have vt := v_together6 sA sB h0 h1
  have sT := tog_smooth sA sB h0 (by omega)
  have a := v_things (n := n) A sA.good.ne
  have b := v_things (n := n) B sB.good.ne
  have c := v_things (n := n) (togL A B) sT.good.ne
  have e := tog_eq (head_mem sT.good.ne)
  rw [e] at c
  generalize ofr n (togL A B) = W4 at *
  simp [g_spare, vt, a, b, c]
/-- nothing to spare: two lots without a common thing -/
theorem spare0 (sA : Smooth n A) (sB : Smooth n B) : (((ixr A 0).length : Int) + (ixr B 0).length - mostL (unL A B) = 0) ↔ ∃ a ∈ A, ∃ b ∈ B, ∀ y ∈ a, ¬ y ∈ b := by
  have hA := sA.good.asc
  have hB := sB.good.asc
  have U0 := unL_ne (A := A) (B := B) sA.good.ne sB.good.ne
  have la : ∀ a ∈ A, a.length = (ixr A 0).length := fun a ha => sA.eqs _ ha _ (head_mem sA.good.ne)
  have lb : ∀ b ∈ B, b.length = (ixr B 0).length := fun b hb => sB.eqs _ hb _ (head_mem sB.good.ne)
  constructor
  · intro h
    obtain ⟨l, hl, e⟩ := most_at U0
    obtain ⟨a, ha, b, hb, rfl⟩ := mem_unL.mp hl
    refine ⟨a, ha, b, hb, fun y hy hy2 => ?_⟩
    have au := uni_asc (hA a ha) (hB b hb)
    have s3 := nodup_le50 (k := a.erase y ++ b) (nd_asc au.1) fun z hz => List.mem_append.mpr (by
      rcases mem_uni.mp hz with q | q
      · by_cases ez : z = y
        · exact .inr (ez ▸ hy2)
        · exact .inl ((List.mem_erase_of_ne ez).mpr q)
      · exact .inr q)
    rw [List.length_append, List.length_erase_of_mem hy] at s3
    have := List.length_pos_of_mem hy
    have := la a ha
    have := lb b hb
    omega
  · rintro ⟨a, ha, b, hb, h⟩
    have hU : uni a b ∈ unL A B := mem_unL.mpr ⟨a, ha, b, hb, rfl⟩
    have le := unL_le hU
    have nd : (a ++ b).Nodup := List.nodup_append.mpr ⟨nd_asc (hA a ha).1, nd_asc (hB b hb).1, fun x hx y hy e => h x hx (e ▸ hy)⟩
    have s1 := nodup_le50 (k := uni a b) nd fun y hy => mem_uni.mpr (List.mem_append.mp hy)
    rw [List.length_append] at s1
    obtain ⟨l, hl, e⟩ := most_at U0
    obtain ⟨a2, ha2, b2, hb2, rfl⟩ := mem_unL.mp hl
    have au := uni_asc (hA a2 ha2) (hB b2 hb2)
    have s3 := nodup_le50 (k := a2 ++ b2) (nd_asc au.1) fun y hy => List.mem_append.mpr (mem_uni.mp hy)
    rw [List.length_append] at s3
    have := la a ha
    have := lb b hb
    have := la a2 ha2
    have := lb b2 hb2
    omega
end
end LW
set_option Elab.async false
set_option linter.all false
set_option maxRecDepth 100000
set_option maxHeartbeats 4000000
namespace LW
open PySem PySem.Spec PyProof.Rows L2 PD
theorem shp_str50 {s : Str} (h : PyData.strOk s = true) : shp (.str s) = true := shp_of (n := 0) ⟨by rw [PyData.canLay0]; exact h, Nat.le_refl _⟩
theorem so_apart : PyData.strOk ("apart" : Str) = true := by first | rfl | decide | decide +kernel
theorem so_barred : PyData.strOk ("barred" : Str) = true := by first | rfl | decide | decide +kernel
theorem so_neither : PyData.strOk ("neither" : Str) = true := by first | rfl | decide | decide +kernel
def sd (b : Bool) : Str := if b = true then "apart" else "barred"
theorem so_sd (b : Bool) : PyData.strOk (sd b) = true := by cases b; exact so_barred; exact so_apart
theorem eqS {a b : Str} (ha : PyData.strOk a = true) (hb : PyData.strOk b = true) : oEq (.str a) (.str b) = .ok (.bool (a == b)) := by
  unfold oEq
  rw [if_pos ⟨shp_str50 ha, shp_str50 hb⟩, PyData.eqv]
theorem neS {a b : Str} (ha : PyData.strOk a = true) (hb : PyData.strOk b = true) : oNe (.str a) (.str b) = .ok (.bool (!(a == b))) := by
  unfold oNe
  rw [if_pos ⟨shp_str50 ha, shp_str50 hb⟩, PyData.eqv]
theorem sd_apart (b : Bool) : (sd b == ("apart" : Str)) = b := by cases b <;> first | rfl | decide | decide +kernel
theorem sd_barred (b : Bool) : (sd b == ("barred" : Str)) = !b := by cases b <;> first | rfl | decide | decide +kernel
theorem sd_neither (b : Bool) : (sd b == ("neither" : Str)) = false := by cases b <;> first | rfl | decide | decide +kernel
theorem and_f {f g : DnB} {ρ : Rho} (h1 : f ρ = .ok false) : dAnd f g ρ = .ok false := by rw [ev_and, h1, R.bind_ok]; rfl
theorem and_t {f g : DnB} {ρ : Rho} {b : Bool} (h1 : f ρ = .ok true) (h2 : g ρ = .ok b) : dAnd f g ρ = .ok b := by rw [ev_and, h1, R.bind_ok, if_pos rfl, h2]
section
variable {n lim : Int} {os : List (List (List Int))}
theorem can_pick : CanB n lim os ↔ ∃ d, Pick d os ∧ fitL n lim d = true := ⟨fun ⟨d, a, b⟩ => ⟨d, chs_pick.mp a, b⟩, fun ⟨d, a, b⟩ => ⟨d, chs_pick.mpr a, b⟩⟩
theorem can_mono {l2 : Int} (h : lim ≤ l2) (c : CanB n lim os) : CanB n l2 os := by
  obtain ⟨d, hp, hf⟩ := can_pick.mp c
  exact can_pick.mpr ⟨d, hp, fitL_iff.mpr fun t t0 t1 => Int.le_trans (fitL_iff.mp hf t t0 t1) h⟩
theorem can_all (O : OsOk n os) : CanB n os.length os := by
  refine can_pick.mpr ⟨firstL os, chs_pick.mp (first_chs50 (lim := 0) O), fitL_iff.mpr fun t _ _ => ?_⟩
  have := (load_le (ch := firstL os) (x := t)).2
  unfold firstL at this ⊢
  rw [List.length_map] at this
  exact this
theorem can_two {A B : List (List Int)} (hA : ∀ l ∈ A, Asc n l) : CanB n 1 [A, B] ↔ ∃ a ∈ A, ∃ b ∈ B, ∀ y ∈ a, ¬ y ∈ b := by
  rw [can_pick]
  constructor
  · rintro ⟨d, hp, hf⟩
    match d, hp with
    | [a, b], hp =>
      refine ⟨a, hp.1, b, hp.2.1, fun y hy hy2 => ?_⟩
      obtain ⟨y0, y1⟩ := (hA a hp.1).2 y hy
      have := fitL_iff.mp hf y y0 y1
      rw [load_cons, load_cons, if_pos hy, if_pos hy2] at this
      have := (load_le (ch := []) (x := y)).1
      omega
  · rintro ⟨a, ha, b, hb, h⟩
    refine ⟨[a, b], ⟨ha, hb, trivial⟩, fitL_iff.mpr fun t _ _ => ?_⟩
    rw [load_cons, load_cons]
    have e : load [] t = 0 := rfl
    rw [e]
    by_cases c : t ∈ a
    · rw [if_pos c, if_neg (h t c)]; omega
    · rw [if_neg c]; split <;> omega
def ro52 (n lim : Int) (os : List (List (List Int))) (tn : Bool) (x y : Option Sl) : Rho := [some (.d (osD n os)), some (.d (.int lim)), some (.d (.bool tn)), x, y]
theorem v_side (O : OsOk n os) (h0 : 0 ≤ lim) (n12 : n ≤ 12) (tn : Bool) : ∃ b : Bool, m_law_side [osD n os, .int lim, .bool tn] = .ok (.str (sd b)) ∧ (b = true ↔ CanB n lim os) := by
  obtain ⟨d1, K1, dep1, F1, e1⟩ := v_bar (lim := lim) O h0
  obtain ⟨d2, K2, dep2, F2, e2⟩ := v_apart (lim := lim) O h0
  have if1 := apart_iff O h0 F1
  have if2 := apart_iff O h0 F2
  have i0 := os_hd O
  have n50 := O.n50
  have s1 : ∀ D3 D4, m_bar [osD n os, .int lim] = .ok D3 → m_apart [osD n os, .int lim] = .ok D4 → gIf (dAsB (dVar 2)) (gSeq (gSet (dArg m_bar (dCons (dVar 0) (dCons (dVar 1) dNil))) (.nm 3)) (gSet (dArg m_apart (dCons (dVar 0) (dCons (dVar 1) dNil))) (.nm 4))) (gSeq (gSet (dArg m_apart (dCons (dVar 0) (dCons (dVar 1) dNil))) (.nm 4)) (gSet (dArg m_bar (dCons (dVar 0) (dCons (dVar 1) dNil))) (.nm 3))) (ro52 n lim os tn none none) = .nx (ro52 n lim os tn (some (.d D3)) (some (.d D4))) := fun D3 D4 h3 h4 => by
    have b3 : ∀ x y, gSet (dArg m_bar (dCons (dVar 0) (dCons (dVar 1) dNil))) (.nm 3) (ro52 n lim os tn x y) = .nx (ro52 n lim os tn (some (.d D3)) y) := fun x y => set_of ((arg_of (cons_of (f := dVar 0) rfl (cons_of (f := dVar 1) (g := dNil) rfl rfl))).trans h3) (set_nm _ _ _)
    have b4 : ∀ x y, gSet (dArg m_apart (dCons (dVar 0) (dCons (dVar 1) dNil))) (.nm 4) (ro52 n lim os tn x y) = .nx (ro52 n lim os tn x (some (.d D4))) := fun x y => set_of ((arg_of (cons_of (f := dVar 0) rfl (cons_of (f := dVar 1) (g := dNil) rfl rfl))).trans h4) (set_nm _ _ _)
    cases tn with
    | true => rw [if_t (asB_of (b := true) rfl), seq_of (b3 _ _), b4]
    | false => rw [if_f (asB_of (b := false) rfl), seq_of (b4 _ _), b3]
  by_cases h : CanB n lim os
  · refine ⟨true, ?_, iff_of_true rfl h⟩
    have hd : barD n lim d1 K1 = .none := by unfold barD; rw [if_pos (if1.mpr h)]
    rw [hd] at e1
    rw [if_pos (if2.mpr h)] at e2
    have e3 := v_is_apart O od_tup F2.c
    rw [over_nil.mp (if2.mpr h)] at e3
    show endR (g_law_side (ro52 n lim os tn none none)) = _
    have c2 : dAnd (dAsB (dOne (fun d => .ok (.bool (isNone d))) (dVar 3))) (dAnd (dAsB (dOne (fun d => .ok (.bool (!isNone d))) (dVar 4))) (dAsB (dArg m_law_is_apart (dCons (dVar 4) (dCons (dVar 0) (dCons (dVar 1) dNil)))))) (ro52 n lim os tn (some (.d .none)) (some (.d (tt d2)))) = .ok true :=
      and_t (asB_of (b := true) rfl) (and_t (asB_of (b := true) rfl) (asB_of ((arg_of (cons_of (f := dVar 4) rfl (cons_of (f := dVar 0) rfl (cons_of (f := dVar 1) (g := dNil) rfl rfl)))).trans e3)))
    have s2 := (if_t (g := gRet (dC (.str "apart"))) (h := gSkip) c2).trans (ret_of (d := .str "apart") rfl)
    unfold g_law_side
    rw [seq_of (s1 _ _ e1 e2), ev_seq, s2]
    rfl
  · refine ⟨false, ?_, iff_of_false (by decide) h⟩
    have n1 : over n lim d1 ≠ [] := fun z => h (if1.mp z)
    have n2 : over n lim d2 ≠ [] := fun z => h (if2.mp z)
    have hd : barD n lim d1 K1 = tu (barX n lim d1 K1) := by unfold barD; rw [if_neg n1]
    rw [hd] at e1
    rw [if_neg n2] at e2
    have ax : Asc n (barX n lim d1 K1) := barX_asc
    have xl := ax.len
    have ib := is_bar O h0 F1 n1
    have b1 := v_is_set (barX n lim d1 K1) n ax (by omega)
    have b2 := v_law_bars (X := barX n lim d1 K1) O h0 (by omega)
    rw [ib] at b2
    show endR (g_law_side (ro52 n lim os tn none none)) = _
    have c2 : dAnd (dAsB (dOne (fun d => .ok (.bool (isNone d))) (dVar 3))) (dAnd (dAsB (dOne (fun d => .ok (.bool (!isNone d))) (dVar 4))) (dAsB (dArg m_law_is_apart (dCons (dVar 4) (dCons (dVar 0) (dCons (dVar 1) dNil)))))) (ro52 n lim os tn (some (.d (tu (barX n lim d1 K1)))) (some (.d .none))) = .ok false := and_f (asB_of (b := false) rfl)
    have s2 : gIf _ (gRet (dC (.str "apart"))) gSkip (ro52 n lim os tn (some (.d (tu (barX n lim d1 K1)))) (some (.d .none))) = .nx (ro52 n lim os tn (some (.d (tu (barX n lim d1 K1)))) (some (.d .none))) := (if_f c2).trans rfl
    have sz : dTwo oIx (dTwo oIx (dVar 0) (dC (.int 0))) (dC (.int 0)) (ro52 n lim os tn (some (.d (tu (barX n lim d1 K1)))) (some (.d .none))) = .ok (.int n) := (two_of ((two_of rfl rfl).trans i0) rfl).trans (of_p0 n _)
    have c3 : dAnd (dAsB (dOne (fun d => .ok (.bool (isNone d))) (dVar 4))) (dAnd (dAsB (dOne (fun d => .ok (.bool (!isNone d))) (dVar 3))) (dAsB (dArg m_law_is_set (dCons (dVar 3) (dCons (dTwo oIx (dTwo oIx (dVar 0) (dC (.int 0))) (dC (.int 0))) dNil))))) (ro52 n lim os tn (some (.d (tu (barX n lim d1 K1)))) (some (.d .none))) = .ok true :=
      and_t (asB_of (b := true) rfl) (and_t (asB_of (b := true) rfl) (asB_of ((arg_of (cons_of (f := dVar 3) rfl (cons_of (g := dNil) sz rfl))).trans b1)))
    have c4 : dAsB (dArg m_law_bars (dCons (dVar 0) (dCons (dVar 1) (dCons (dVar 3) dNil)))) (ro52 n lim os tn (some (.d (tu (barX n lim d1 K1)))) (some (.d .none))) = .ok true := asB_of ((arg_of (cons_of (f := dVar 0) rfl (cons_of (f := dVar 1) rfl (cons_of (f := dVar 3) (g := dNil) rfl rfl)))).trans b2)
    have s3 := (if_t (h := gSkip) c3).trans ((if_t (g := gRet (dC (.str "barred"))) (h := gSkip) c4).trans (ret_of (d := .str "barred") rfl))
    unfold g_law_side
    rw [seq_of (s1 _ _ e1 e2), seq_of s2, ev_seq, s3]
    rfl
end
end LW
set_option Elab.async false
set_option linter.all false
set_option maxRecDepth 100000
set_option maxHeartbeats 4000000
namespace LW
open PySem PySem.Spec PyProof.Rows L2 PD
theorem os_two (n : Int) (os : List (List (List Int))) (h : 2 ≤ os.length) : oCut (osD n os) none (some 2) = .ok (osD n (os.take 2)) := by
  show R.ok (PyData.tuple (PD.cutD (os.map (ofr n)) none (some ((2 : Nat) : Int)))) = _
  unfold PD.cutD
  rw [HT.sIx_nat, HT.sIx_none, List.length_map, Nat.min_eq_left h, List.drop_zero, Nat.sub_zero, ← List.map_take]
  rfl
theorem os_ix {n : Int} {os : List (List (List Int))} {i : Int} {ls : List (List Int)} (h0 : 0 ≤ i) (h : os[i.toNat]? = some ls) : oIx (osD n os) (.int i) = .ok (ofr n ls) := od_tup.ix i ls h0 h
theorem two_head {α : Type} : ∀ {os : List α}, 2 ≤ os.length → ∃ A B r, os = A :: B :: r
  | [], h => absurd h (by simp)
  | [a], h => absurd h (by simp)
  | a :: b :: r, _ => ⟨a, b, r, rfl⟩
theorem main_k52 (ns : List Int) (hn : ns.length ≤ 63) : m_law_k52 [.list (ns.map .int)] = .ok (.bool true) := by
  show endR (g_law_k52 [some (.d (li ns)), none, none, none, none, none, none, none, none]) = _
  obtain ⟨c0, e0⟩ := v_cell ns 0 (by decide)
  obtain ⟨L, eL, hL, bL⟩ := v_draws c0 4 (by decide) (by decide)
  have hL2 : L.length = 4 := hL
  have s1 : gSet (dArg m_law_draws (dCons (dArg m_law_cell (dCons (dVar 0) (dCons (dC (.int 0)) dNil))) (dCons (dC (.int 4)) dNil))) (.nm 1) [some (.d (li ns)), none, none, none, none, none, none, none, none] = .nx [some (.d (li ns)), some (.d (li L)), none, none, none, none, none, none, none] :=
    set_of ((arg_of (cons_of ((arg_of (cons_of rfl (cons_of rfl rfl))).trans e0) (cons_of rfl rfl))).trans eL) (set_nm _ _ _)
  obtain ⟨cnt, mc, e2⟩ := draw50 (ρ := [some (.d (li ns)), some (.d (li L)), none, none, none, none, none, none, none]) (L := L) (T := [3, 4, 2, 5, 3, 6, 2, 1]) (i := 0) (m := 8) (tl := (dCons (dC (.int 3)) (dCons (dC (.int 4)) (dCons (dC (.int 2)) (dCons (dC (.int 5)) (dCons (dC (.int 3)) (dCons (dC (.int 6)) (dCons (dC (.int 2)) (dCons (dC (.int 1)) dNil))))))))) rfl rfl (by decide) (by omega) (by decide) rfl
  have s2 := set_of (t := .nm 2) e2 (set_nm _ _ _)
  simp only [List.set_cons_succ, List.set_cons_zero] at s2
  obtain ⟨n, mn, e3⟩ := draw50 (ρ := [some (.d (li ns)), some (.d (li L)), some (.d (.int cnt)), none, none, none, none, none, none]) (L := L) (T := [4, 5, 6, 3, 4, 5, 2, 0]) (i := 1) (m := 8) (tl := (dCons (dC (.int 4)) (dCons (dC (.int 5)) (dCons (dC (.int 6)) (dCons (dC (.int 3)) (dCons (dC (.int 4)) (dCons (dC (.int 5)) (dCons (dC (.int 2)) (dCons (dC (.int 0)) dNil))))))))) rfl rfl (by decide) (by omega) (by decide) rfl
  have s3 := set_of (t := .nm 3) e3 (set_nm _ _ _)
  simp only [List.set_cons_succ, List.set_cons_zero] at s3
  obtain ⟨lim, ml, e4⟩ := draw50 (ρ := [some (.d (li ns)), some (.d (li L)), some (.d (.int cnt)), some (.d (.int n)), none, none, none, none, none]) (L := L) (T := [1, 2, 1, 3, 2, 4, 1, 0]) (i := 2) (m := 8) (tl := (dCons (dC (.int 1)) (dCons (dC (.int 2)) (dCons (dC (.int 1)) (dCons (dC (.int 3)) (dCons (dC (.int 2)) (dCons (dC (.int 4)) (dCons (dC (.int 1)) (dCons (dC (.int 0)) dNil))))))))) rfl rfl (by decide) (by omega) (by decide) rfl
  have s4 := set_of (t := .nm 4) e4 (set_nm _ _ _)
  simp only [List.set_cons_succ, List.set_cons_zero] at s4
  have e5 := (two_of (u := oEq) (mod50 (ρ := [some (.d (li ns)), some (.d (li L)), some (.d (.int cnt)), some (.d (.int n)), some (.d (.int lim)), none, none, none, none]) (L := L) (i := 3) (m := 2) rfl (by decide) (by omega) (by decide)) (show dC (.int 1) _ = .ok (.int 1) from rfl)).trans (oEq_int _ _)
  generalize ((ixv L 3).fmod 2 == 1) = tn at e5
  have s5 := set_of (t := .nm 5) e5 (set_nm _ _ _)
  simp only [List.set_cons_succ, List.set_cons_zero] at s5
  clear e2 e3 e4 e5
  simp only [List.mem_cons, List.not_mem_nil, or_false] at mc mn ml
  have hc : 1 ≤ cnt ∧ cnt ≤ 6 := by omega
  have hn4 : 0 ≤ n ∧ n ≤ 6 := by omega
  have hl : 0 ≤ lim := by omega
  clear mn ml
  obtain ⟨os, e7, ol, sm⟩ := v_offers50 ns 1 n cnt (by decide) hn4.1 (by omega) (by omega) (by omega)
  have s6 : gSet (dArg m_law_offers_k50 (dCons (dVar 0) (dCons (dC (.int 1)) (dCons (dVar 3) (dCons (dVar 2) dNil))))) (.nm 6) [some (.d (li ns)), some (.d (li L)), some (.d (.int cnt)), some (.d (.int n)), some (.d (.int lim)), some (.d (.bool tn)), none, none, none] = .nx [some (.d (li ns)), some (.d (li L)), some (.d (.int cnt)), some (.d (.int n)), some (.d (.int lim)), some (.d (.bool tn)), some (.d (osD n os)), none, none] :=
    set_of ((arg_of (cons_of rfl (cons_of rfl (cons_of rfl (cons_of rfl rfl))))).trans e7) (set_nm _ _ _)
  have O := osOk50 hn4.1 (by omega) (by omega) (by omega) sm
  obtain ⟨b, eb, hb⟩ := v_side (lim := lim) O hl (by omega) tn
  obtain ⟨b2, eb2, hb2⟩ := v_side (lim := cnt) O (by omega) (by omega) tn
  obtain ⟨b3, eb3, hb3⟩ := v_side (lim := lim + 1) O (by omega) (by omega) tn
  have t2 : b2 = true := hb2.mpr (by rw [← ol]; exact can_all O)
  rw [t2] at eb2
  have s7 : gSet (dArg m_law_side (dCons (dVar 6) (dCons (dVar 4) (dCons (dVar 5) dNil)))) (.nm 7) [some (.d (li ns)), some (.d (li L)), some (.d (.int cnt)), some (.d (.int n)), some (.d (.int lim)), some (.d (.bool tn)), some (.d (osD n os)), none, none] = .nx [some (.d (li ns)), some (.d (li L)), some (.d (.int cnt)), some (.d (.int n)), some (.d (.int lim)), some (.d (.bool tn)), some (.d (osD n os)), some (.d (.str (sd b))), none] :=
    set_of ((arg_of (cons_of rfl (cons_of rfl (cons_of rfl rfl)))).trans eb) (set_nm _ _ _)
  generalize hρ : ([some (.d (li ns)), some (.d (li L)), some (.d (.int cnt)), some (.d (.int n)), some (.d (.int lim)), some (.d (.bool tn)), some (.d (osD n os)), some (.d (.str (sd b))), none] : Rho) = ρ at s7
  have v2 : dVar 2 ρ = .ok (.int cnt) := by rw [← hρ]; rfl
  have v4 : dVar 4 ρ = .ok (.int lim) := by rw [← hρ]; rfl
  have v5 : dVar 5 ρ = .ok (.bool tn) := by rw [← hρ]; rfl
  have v6 : dVar 6 ρ = .ok (osD n os) := by rw [← hρ]; rfl
  have v7 : dVar 7 ρ = .ok (.str (sd b)) := by rw [← hρ]; rfl
  have cS : ∀ s : Str, dC (.str s) ρ = .ok (.str s) := fun _ => rfl
  have is7 : ∀ s : Str, PyData.strOk s = true → dAsB (dTwo oEq (dVar 7) (dC (.str s))) ρ = .ok (sd b == s) := fun s h => asB_of ((two_of v7 (cS s)).trans (eqS (so_sd b) h))
  have s8 : gIf (dOr (dAsB (dTwo oEq (dVar 7) (dC (.str "neither")))) (dAsB (dTwo oNe (dArg m_law_side (dCons (dVar 6) (dCons (dVar 2) (dCons (dVar 5) dNil)))) (dC (.str "apart"))))) (gRet (dC (.bool false))) gSkip ρ = .nx ρ := by
    have c1 := is7 "neither" so_neither
    rw [sd_neither] at c1
    have c2 := asB_of ((two_of (u := oNe) ((arg_of (m := m_law_side) (cons_of v6 (cons_of v2 (cons_of (g := dNil) v5 rfl)))).trans eb2) (cS "apart")).trans (neS (so_sd true) so_apart))
    rw [sd_apart] at c2
    exact (if_f (or_ff c1 c2)).trans rfl
  have s9 : gIf (dAnd (dAsB (dTwo oEq (dVar 7) (dC (.str "apart")))) (dAsB (dTwo oNe (dArg m_law_side (dCons (dVar 6) (dCons (dTwo oAdd (dVar 4) (dC (.int 1))) (dCons (dVar 5) dNil)))) (dC (.str "apart"))))) (gRet (dC (.bool false))) gSkip ρ = .nx ρ := by
    have c1 := is7 "apart" so_apart
    rw [sd_apart] at c1
    cases hbb : b with
    | false =>
      rw [hbb] at c1
      exact (if_f (and_f c1)).trans rfl
    | true =>
      rw [hbb] at c1
      have t3 : b3 = true := hb3.mpr (can_mono (by omega) (hb.mp hbb))
      rw [t3] at eb3
      have c2 := asB_of ((two_of (u := oNe) ((arg_of (m := m_law_side) (cons_of v6 (cons_of ((two_of (u := oAdd) (g := dC (.int 1)) v4 rfl).trans (oAdd_int _ _)) (cons_of (g := dNil) v5 rfl)))).trans eb3) (cS "apart")).trans (neS (so_sd true) so_apart))
      rw [sd_apart] at c2
      exact (if_f (and_t c1 c2)).trans rfl
  have s10 : gIf (dAnd (dAsB (dTwo oEq (dVar 7) (dC (.str "barred")))) (dAnd (dAsB (dTwo oGt (dVar 4) (dC (.int 0)))) (dAsB (dTwo oNe (dArg m_law_side (dCons (dVar 6) (dCons (dTwo oSub (dVar 4) (dC (.int 1))) (dCons (dVar 5) dNil)))) (dC (.str "barred")))))) (gRet (dC (.bool false))) gSkip ρ = .nx ρ := by
    have c1 := is7 "barred" so_barred
    rw [sd_barred] at c1
    have g0 := asB_of ((two_of (u := oGt) (g := dC (.int 0)) v4 rfl).trans (oGt_int _ _))
    cases hbb : b with
    | true =>
      rw [hbb] at c1
      exact (if_f (and_f c1)).trans rfl
    | false =>
      rw [hbb] at c1
      by_cases pos : 0 < lim
      · obtain ⟨b4, eb4, hb4⟩ := v_side (lim := lim - 1) O (by omega) (by omega) tn
        have t4 : b4 = false := by
          cases h : b4 with
          | false => rfl
          | true =>
            have := hb.mpr (can_mono (by omega) (hb4.mp h))
            rw [hbb] at this
            cases this
        rw [t4] at eb4
        have c2 := asB_of ((two_of (u := oNe) ((arg_of (m := m_law_side) (cons_of v6 (cons_of ((two_of (u := oSub) (g := dC (.int 1)) v4 rfl).trans (oSub_int _ _)) (cons_of (g := dNil) v5 rfl)))).trans eb4) (cS "barred")).trans (neS (so_sd false) so_barred))
        rw [sd_barred] at c2
        rw [decide_eq_true pos] at g0
        exact (if_f (and_t c1 (and_t g0 c2))).trans rfl
      · rw [decide_eq_false pos] at g0
        exact (if_f (and_t c1 (and_f g0))).trans rfl
  have c11 := asB_of ((two_of (u := oEq) (g := dC (.int 1)) v2 rfl).trans (oEq_int _ _))
  unfold g_law_k52
  rw [seq_of s1, seq_of s2, seq_of s3, seq_of s4, seq_of s5, seq_of s6, seq_of s7, seq_of s8, seq_of s9, seq_of s10]
  by_cases h1 : cnt = 1
  · have e1 : (cnt == 1) = true := by rw [beq_iff_eq]; exact h1
    rw [e1] at c11
    rw [ev_seq, (if_t (h := gSkip) c11).trans (ret_of (d := .bool true) rfl)]
    rfl
  · have e1 : (cnt == 1) = false := by rw [beq_eq_false_iff_ne]; exact h1
    rw [e1] at c11
    have s11 : gIf (dAsB (dTwo oEq (dVar 2) (dC (.int 1)))) (gRet (dC (.bool true))) gSkip ρ = .nx ρ := (if_f c11).trans rfl
    rw [seq_of s11]
    obtain ⟨A, B, r, eo⟩ := two_head (os := os) (by omega)
    have sA := sm A (by rw [eo]; simp)
    have sB := sm B (by rw [eo]; simp)
    have iA : oIx (osD n os) (.int 0) = .ok (ofr n A) := os_ix (by decide) (by rw [eo]; rfl)
    have iB : oIx (osD n os) (.int 1) = .ok (ofr n B) := os_ix (by decide) (by rw [eo]; rfl)
    have esp := v_spare6 sA sB hn4.1 hn4.2
    have OT := osOk50 (os := os.take 2) hn4.1 (by omega) (by rw [List.length_take]; omega) (by rw [List.length_take]; omega) fun ls h => sm ls (List.mem_of_mem_take h)
    obtain ⟨b5, eb5, hb5⟩ := v_side (lim := 1) OT (by decide) (by omega) tn
    have tk : os.take 2 = [A, B] := by rw [eo]; rfl
    have hb5 : b5 = true ↔ CanB n 1 [A, B] := by rw [← tk]; exact hb5
    have e12 := (arg_of (m := m_spare) (cons_of ((two_of (u := oIx) (g := dC (.int 0)) v6 rfl).trans iA) (cons_of (g := dNil) ((two_of (u := oIx) (g := dC (.int 1)) v6 rfl).trans iB) rfl))).trans esp
    have s0 := spare0 sA sB
    generalize ((ixr A 0).length : Int) + (ixr B 0).length - mostL (unL A B) = z at e12 s0
    have s12 : gSet (dArg m_spare (dCons (dTwo oIx (dVar 6) (dC (.int 0))) (dCons (dTwo oIx (dVar 6) (dC (.int 1))) dNil))) (.nm 8) ρ = .nx (ρ.set 8 (some (.d (.int z)))) := set_of e12 (set_nm _ _ _)
    rw [seq_of s12]
    have w5 : dVar 5 (ρ.set 8 (some (.d (.int z)))) = .ok (.bool tn) := by rw [← hρ]; rfl
    have w6 : dVar 6 (ρ.set 8 (some (.d (.int z)))) = .ok (osD n os) := by rw [← hρ]; rfl
    have w8 : dVar 8 (ρ.set 8 (some (.d (.int z)))) = .ok (.int z) := by rw [← hρ]; rfl
    generalize ρ.set 8 (some (.d (.int z))) = ρ2 at w5 w6 w8
    have s13 : gIf (dNot (dAsB (dArg m_law_is_integer (dCons (dVar 8) dNil)))) (gRet (dC (.bool false))) gSkip ρ2 = .nx ρ2 := (if_f (not_of (b := true) (asB_of ((arg_of (m := m_law_is_integer) (cons_of (g := dNil) w8 rfl)).trans (v_integer z))))).trans rfl
    have cu : dCut (dVar 6) dNoP (dPart (dC (.int 2))) ρ2 = .ok (osD n (os.take 2)) := by
      rw [ev_cut, w6, R.bind_ok]
      exact os_two n os (by omega)
    have q1 := (two_of (u := oEq) ((arg_of (m := m_law_side) (cons_of cu (cons_of (f := dC (.int 1)) rfl (cons_of (g := dNil) w5 rfl)))).trans eb5) (show dC (.str "apart") ρ2 = .ok (.str "apart") from rfl)).trans (eqS (so_sd b5) so_apart)
    rw [sd_apart] at q1
    have q2 := (two_of (u := oEq) (g := dC (.int 0)) w8 rfl).trans (oEq_int z 0)
    have q3 := (two_of (u := oEq) q1 q2).trans (oEq_bool _ _)
    rw [seq_of s13, ret_of q3]
    have fin : (b5 == (z == 0)) = true := by
      rw [beq_iff_eq, Bool.eq_iff_iff, hb5, beq_iff_eq, s0]
      exact can_two sA.good.asc
    rw [fin]
    rfl
end LW
set_option Elab.async false
set_option linter.all false
set_option maxRecDepth 100000
set_option maxHeartbeats 4000000
namespace LW
open PySem PySem.Spec PyProof.Rows L2 PD
theorem all_mk {l : PySem.W.OpenLaw} {w : World} {K : PySem.W.Frag} {h : Heap} {mg : Str → Option Value} {fa : Addr} (X : K.In h) (G : h.Ns mainGlobals mg) (hfa : mg "law" = some (.ref fa))
    {f1 f2 f3 f4 f5 f6 f7 f8 f9 f10 f11 f12 f13 f14 f15 f16 f17 f18 f19 f20 f21 f22 f23 f24 f25 f26 f27 f28 f29 f30 f31 f32 f33 f34 f35 f36 f37 f38 f39 f40 f41 f42 f43 : Addr} {od1 an1 od2 an2 od3 an3 od4 an4 od5 an5 od6 an6 od7 an7 od8 an8 od9 an9 od10 an10 od11 an11 od12 an12 od13 an13 od14 an14 od15 an15 od16 an16 od17 an17 od18 an18 od19 an19 od20 an20 od21 an21 od22 an22 od23 an23 od24 an24 od25 an25 od26 an26 od27 an27 od28 an28 od29 an29 od30 an30 od31 an31 od32 an32 od33 an33 od34 an34 od35 an35 od36 an36 od37 an37 od38 an38 od39 an39 od40 an40 od41 an41 od42 an42 od43 an43 : Option Addr} {sl1 sl2 sl3 sl4 sl5 sl6 sl7 sl8 sl9 sl10 sl11 sl12 sl13 sl14 sl15 sl16 sl17 sl18 sl19 sl20 sl21 sl22 sl23 sl24 sl25 sl26 sl27 sl28 sl29 sl30 sl31 sl32 sl33 sl34 sl35 sl36 sl37 sl38 sl39 sl40 sl41 sl42 sl43 : Array (Option Value)} {oc1 kV1 dc1 pm1 ct1 cd1 oc2 kV2 dc2 pm2 ct2 cd2 oc3 kV3 dc3 pm3 ct3 cd3 oc4 kV4 dc4 pm4 ct4 cd4 oc5 kV5 dc5 pm5 ct5 cd5 oc6 kV6 dc6 pm6 ct6 cd6 oc7 kV7 dc7 pm7 ct7 cd7 oc8 kV8 dc8 pm8 ct8 cd8 oc9 kV9 dc9 pm9 ct9 cd9 oc10 kV10 dc10 pm10 ct10 cd10 oc11 kV11 dc11 pm11 ct11 cd11 oc12 kV12 dc12 pm12 ct12 cd12 oc13 kV13 dc13 pm13 ct13 cd13 oc14 kV14 dc14 pm14 ct14 cd14 oc15 kV15 dc15 pm15 ct15 cd15 oc16 kV16 dc16 pm16 ct16 cd16 oc17 kV17 dc17 pm17 ct17 cd17 oc18 kV18 dc18 pm18 ct18 cd18 oc19 kV19 dc19 pm19 ct19 cd19 oc20 kV20 dc20 pm20 ct20 cd20 oc21 kV21 dc21 pm21 ct21 cd21 oc22 kV22 dc22 pm22 ct22 cd22 oc23 kV23 dc23 pm23 ct23 cd23 oc24 kV24 dc24 pm24 ct24 cd24 oc25 kV25 dc25 pm25 ct25 cd25 oc26 kV26 dc26 pm26 ct26 cd26 oc27 kV27 dc27 pm27 ct27 cd27 oc28 kV28 dc28 pm28 ct28 cd28 oc29 kV29 dc29 pm29 ct29 cd29 oc30 kV30 dc30 pm30 ct30 cd30 oc31 kV31 dc31 pm31 ct31 cd31 oc32 kV32 dc32 pm32 ct32 cd32 oc33 kV33 dc33 pm33 ct33 cd33 oc34 kV34 dc34 pm34 ct34 cd34 oc35 kV35 dc35 pm35 ct35 cd35 oc36 kV36 dc36 pm36 ct36 cd36 oc37 kV37 dc37 pm37 ct37 cd37 oc38 kV38 dc38 pm38 ct38 cd38 oc39 kV39 dc39 pm39 ct39 cd39 oc40 kV40 dc40 pm40 ct40 cd40 oc41 kV41 dc41 pm41 ct41 cd41 oc42 kV42 dc42 pm42 ct42 cd42 oc43 kV43 dc43 pm43 ct43 cd43 : Value}
    (a1 : PySem.W.nsIn K mainGlobals "_law_draws" = some (some (.ref f1))) (l1 : K.lookup f1 = some ⟨oc1, od1, .func (PySem.W.fnOf "_law_draws" "_law_draws" (defArgs s_law_draws) (defBody s_law_draws) (defScope s_law_draws) .none kV1 dc1 pm1 an1 cd1 ct1), sl1⟩) (c1 : PySem.W.codeIn K cd1 "_law_draws" = true) (k1 : PySem.W.keepIn K (.ref f1) = true)
    (a2 : PySem.W.nsIn K mainGlobals "_law_parts_of" = some (some (.ref f2))) (l2 : K.lookup f2 = some ⟨oc2, od2, .func (PySem.W.fnOf "_law_parts_of" "_law_parts_of" (defArgs s_law_parts_of) (defBody s_law_parts_of) (defScope s_law_parts_of) .none kV2 dc2 pm2 an2 cd2 ct2), sl2⟩) (c2 : PySem.W.codeIn K cd2 "_law_parts_of" = true) (k2 : PySem.W.keepIn K (.ref f2) = true)
    (a3 : PySem.W.nsIn K mainGlobals "_law_rest" = some (some (.ref f3))) (l3 : K.lookup f3 = some ⟨oc3, od3, .func (PySem.W.fnOf "_law_rest" "_law_rest" (defArgs s_law_rest) (defBody s_law_rest) (defScope s_law_rest) .none kV3 dc3 pm3 an3 cd3 ct3), sl3⟩) (c3 : PySem.W.codeIn K cd3 "_law_rest" = true) (k3 : PySem.W.keepIn K (.ref f3) = true)
    (a4 : PySem.W.nsIn K mainGlobals "_law_count" = some (some (.ref f4))) (l4 : K.lookup f4 = some ⟨oc4, od4, .func (PySem.W.fnOf "_law_count" "_law_count" (defArgs s_law_count) (defBody s_law_count) (defScope s_law_count) .none kV4 dc4 pm4 an4 cd4 ct4), sl4⟩) (c4 : PySem.W.codeIn K cd4 "_law_count" = true) (k4 : PySem.W.keepIn K (.ref f4) = true)
    (a5 : PySem.W.nsIn K mainGlobals "_law_smooth_lots" = some (some (.ref f5))) (l5 : K.lookup f5 = some ⟨oc5, od5, .func (PySem.W.fnOf "_law_smooth_lots" "_law_smooth_lots" (defArgs s_law_smooth_lots) (defBody s_law_smooth_lots) (defScope s_law_smooth_lots) .none kV5 dc5 pm5 an5 cd5 ct5), sl5⟩) (c5 : PySem.W.codeIn K cd5 "_law_smooth_lots" = true) (k5 : PySem.W.keepIn K (.ref f5) = true)
    (a6 : PySem.W.nsIn K mainGlobals "_law_cell" = some (some (.ref f6))) (l6 : K.lookup f6 = some ⟨oc6, od6, .func (PySem.W.fnOf "_law_cell" "_law_cell" (defArgs s_law_cell) (defBody s_law_cell) (defScope s_law_cell) .none kV6 dc6 pm6 an6 cd6 ct6), sl6⟩) (c6 : PySem.W.codeIn K cd6 "_law_cell" = true) (k6 : PySem.W.keepIn K (.ref f6) = true)
    (a7 : PySem.W.nsIn K mainGlobals "_law_offers" = some (some (.ref f7))) (l7 : K.lookup f7 = some ⟨oc7, od7, .func (PySem.W.fnOf "_law_offers" "_law_offers" (defArgs s_law_offers) (defBody s_law_offers) (defScope s_law_offers) .none kV7 dc7 pm7 an7 cd7 ct7), sl7⟩) (c7 : PySem.W.codeIn K cd7 "_law_offers" = true) (k7 : PySem.W.keepIn K (.ref f7) = true)
    (a8 : PySem.W.nsIn K mainGlobals "_limited_game" = some (some (.ref f8))) (l8 : K.lookup f8 = some ⟨oc8, od8, .func (PySem.W.fnOf "_limited_game" "_limited_game" (defArgs s_limited_game) (defBody s_limited_game) (defScope s_limited_game) .none kV8 dc8 pm8 an8 cd8 ct8), sl8⟩) (c8 : PySem.W.codeIn K cd8 "_limited_game" = true) (k8 : PySem.W.keepIn K (.ref f8) = true)
    (a9 : PySem.W.nsIn K mainGlobals "known_lots" = some (some (.ref f9))) (l9 : K.lookup f9 = some ⟨oc9, od9, .func (PySem.W.fnOf "known_lots" "known_lots" (defArgs s_known_lots) (defBody s_known_lots) (defScope s_known_lots) .none kV9 dc9 pm9 an9 cd9 ct9), sl9⟩) (c9 : PySem.W.codeIn K cd9 "known_lots" = true) (k9 : PySem.W.keepIn K (.ref f9) = true)
    (a10 : PySem.W.nsIn K mainGlobals "difference" = some (some (.ref f10))) (l10 : K.lookup f10 = some ⟨oc10, od10, .func (PySem.W.fnOf "difference" "difference" (defArgs s_difference) (defBody s_difference) (defScope s_difference) .none kV10 dc10 pm10 an10 cd10 ct10), sl10⟩) (c10 : PySem.W.codeIn K cd10 "difference" = true) (k10 : PySem.W.keepIn K (.ref f10) = true)
    (a11 : PySem.W.nsIn K mainGlobals "_things_missing" = some (some (.ref f11))) (l11 : K.lookup f11 = some ⟨oc11, od11, .func (PySem.W.fnOf "_things_missing" "_things_missing" (defArgs s_things_missing) (defBody s_things_missing) (defScope s_things_missing) .none kV11 dc11 pm11 an11 cd11 ct11), sl11⟩) (c11 : PySem.W.codeIn K cd11 "_things_missing" = true) (k11 : PySem.W.keepIn K (.ref f11) = true)
    (a12 : PySem.W.nsIn K mainGlobals "put_in" = some (some (.ref f12))) (l12 : K.lookup f12 = some ⟨oc12, od12, .func (PySem.W.fnOf "put_in" "put_in" (defArgs s_put_in) (defBody s_put_in) (defScope s_put_in) .none kV12 dc12 pm12 an12 cd12 ct12), sl12⟩) (c12 : PySem.W.codeIn K cd12 "put_in" = true) (k12 : PySem.W.keepIn K (.ref f12) = true)
    (a13 : PySem.W.nsIn K mainGlobals "leave_out" = some (some (.ref f13))) (l13 : K.lookup f13 = some ⟨oc13, od13, .func (PySem.W.fnOf "leave_out" "leave_out" (defArgs s_leave_out) (defBody s_leave_out) (defScope s_leave_out) .none kV13 dc13 pm13 an13 cd13 ct13), sl13⟩) (c13 : PySem.W.codeIn K cd13 "leave_out" = true) (k13 : PySem.W.keepIn K (.ref f13) = true)
    (a14 : PySem.W.nsIn K mainGlobals "exchange" = some (some (.ref f14))) (l14 : K.lookup f14 = some ⟨oc14, od14, .func (PySem.W.fnOf "exchange" "exchange" (defArgs s_exchange) (defBody s_exchange) (defScope s_exchange) .none kV14 dc14 pm14 an14 cd14 ct14), sl14⟩) (c14 : PySem.W.codeIn K cd14 "exchange" = true) (k14 : PySem.W.keepIn K (.ref f14) = true)
    (a15 : PySem.W.nsIn K mainGlobals "replacements" = some (some (.ref f15))) (l15 : K.lookup f15 = some ⟨oc15, od15, .func (PySem.W.fnOf "replacements" "replacements" (defArgs s_replacements) (defBody s_replacements) (defScope s_replacements) .none kV15 dc15 pm15 an15 cd15 ct15), sl15⟩) (c15 : PySem.W.codeIn K cd15 "replacements" = true) (k15 : PySem.W.keepIn K (.ref f15) = true)
    (a16 : PySem.W.nsIn K mainGlobals "_exchanges_of" = some (some (.ref f16))) (l16 : K.lookup f16 = some ⟨oc16, od16, .func (PySem.W.fnOf "_exchanges_of" "_exchanges_of" (defArgs s_exchanges_of) (defBody s_exchanges_of) (defScope s_exchanges_of) .none kV16 dc16 pm16 an16 cd16 ct16), sl16⟩) (c16 : PySem.W.codeIn K cd16 "_exchanges_of" = true) (k16 : PySem.W.keepIn K (.ref f16) = true)
    (a17 : PySem.W.nsIn K mainGlobals "_steps_from" = some (some (.ref f17))) (l17 : K.lookup f17 = some ⟨oc17, od17, .func (PySem.W.fnOf "_steps_from" "_steps_from" (defArgs s_steps_from) (defBody s_steps_from) (defScope s_steps_from) .none kV17 dc17 pm17 an17 cd17 ct17), sl17⟩) (c17 : PySem.W.codeIn K cd17 "_steps_from" = true) (k17 : PySem.W.keepIn K (.ref f17) = true)
    (a18 : PySem.W.nsIn K mainGlobals "chains_of" = some (some (.ref f18))) (l18 : K.lookup f18 = some ⟨oc18, od18, .func (PySem.W.fnOf "chains_of" "chains_of" (defArgs s_chains_of) (defBody s_chains_of) (defScope s_chains_of) .none kV18 dc18 pm18 an18 cd18 ct18), sl18⟩) (c18 : PySem.W.codeIn K cd18 "chains_of" = true) (k18 : PySem.W.keepIn K (.ref f18) = true)
    (a19 : PySem.W.nsIn K mainGlobals "count_loads" = some (some (.ref f19))) (l19 : K.lookup f19 = some ⟨oc19, od19, .func (PySem.W.fnOf "count_loads" "count_loads" (defArgs s_count_loads) (defBody s_count_loads) (defScope s_count_loads) .none kV19 dc19 pm19 an19 cd19 ct19), sl19⟩) (c19 : PySem.W.codeIn K cd19 "count_loads" = true) (k19 : PySem.W.keepIn K (.ref f19) = true)
    (a20 : PySem.W.nsIn K mainGlobals "_players" = some (some (.ref f20))) (l20 : K.lookup f20 = some ⟨oc20, od20, .func (PySem.W.fnOf "_players" "_players" (defArgs s_players) (defBody s_players) (defScope s_players) .none kV20 dc20 pm20 an20 cd20 ct20), sl20⟩) (c20 : PySem.W.codeIn K cd20 "_players" = true) (k20 : PySem.W.keepIn K (.ref f20) = true)
    (a21 : PySem.W.nsIn K mainGlobals "loads" = some (some (.ref f21))) (l21 : K.lookup f21 = some ⟨oc21, od21, .func (PySem.W.fnOf "loads" "loads" (defArgs s_loads) (defBody s_loads) (defScope s_loads) .none kV21 dc21 pm21 an21 cd21 ct21), sl21⟩) (c21 : PySem.W.codeIn K cd21 "loads" = true) (k21 : PySem.W.keepIn K (.ref f21) = true)
    (a22 : PySem.W.nsIn K mainGlobals "bar_behind" = some (some (.ref f22))) (l22 : K.lookup f22 = some ⟨oc22, od22, .func (PySem.W.fnOf "bar_behind" "bar_behind" (defArgs s_bar_behind) (defBody s_bar_behind) (defScope s_bar_behind) .none kV22 dc22 pm22 an22 cd22 ct22), sl22⟩) (c22 : PySem.W.codeIn K cd22 "bar_behind" = true) (k22 : PySem.W.keepIn K (.ref f22) = true)
    (a23 : PySem.W.nsIn K mainGlobals "with_lot" = some (some (.ref f23))) (l23 : K.lookup f23 = some ⟨oc23, od23, .func (PySem.W.fnOf "with_lot" "with_lot" (defArgs s_with_lot) (defBody s_with_lot) (defScope s_with_lot) .none kV23 dc23 pm23 an23 cd23 ct23), sl23⟩) (c23 : PySem.W.codeIn K cd23 "with_lot" = true) (k23 : PySem.W.keepIn K (.ref f23) = true)
    (a24 : PySem.W.nsIn K mainGlobals "_behind_chain" = some (some (.ref f24))) (l24 : K.lookup f24 = some ⟨oc24, od24, .func (PySem.W.fnOf "_behind_chain" "_behind_chain" (defArgs s_behind_chain) (defBody s_behind_chain) (defScope s_behind_chain) .none kV24 dc24 pm24 an24 cd24 ct24), sl24⟩) (c24 : PySem.W.codeIn K cd24 "_behind_chain" = true) (k24 : PySem.W.keepIn K (.ref f24) = true)
    (a25 : PySem.W.nsIn K mainGlobals "cost_at" = some (some (.ref f25))) (l25 : K.lookup f25 = some ⟨oc25, od25, .func (PySem.W.fnOf "cost_at" "cost_at" (defArgs s_cost_at) (defBody s_cost_at) (defScope s_cost_at) .none kV25 dc25 pm25 an25 cd25 ct25), sl25⟩) (c25 : PySem.W.codeIn K cd25 "cost_at" = true) (k25 : PySem.W.keepIn K (.ref f25) = true)
    (a26 : PySem.W.nsIn K mainGlobals "lessened" = some (some (.ref f26))) (l26 : K.lookup f26 = some ⟨oc26, od26, .func (PySem.W.fnOf "lessened" "lessened" (defArgs s_lessened) (defBody s_lessened) (defScope s_lessened) .none kV26 dc26 pm26 an26 cd26 ct26), sl26⟩) (c26 : PySem.W.codeIn K cd26 "lessened" = true) (k26 : PySem.W.keepIn K (.ref f26) = true)
    (a27 : PySem.W.nsIn K mainGlobals "least_from" = some (some (.ref f27))) (l27 : K.lookup f27 = some ⟨oc27, od27, .func (PySem.W.fnOf "least_from" "least_from" (defArgs s_least_from) (defBody s_least_from) (defScope s_least_from) .none kV27 dc27 pm27 an27 cd27 ct27), sl27⟩) (c27 : PySem.W.codeIn K cd27 "least_from" = true) (k27 : PySem.W.keepIn K (.ref f27) = true)
    (a28 : PySem.W.nsIn K mainGlobals "least_crowded" = some (some (.ref f28))) (l28 : K.lookup f28 = some ⟨oc28, od28, .func (PySem.W.fnOf "least_crowded" "least_crowded" (defArgs s_least_crowded) (defBody s_least_crowded) (defScope s_least_crowded) .none kV28 dc28 pm28 an28 cd28 ct28), sl28⟩) (c28 : PySem.W.codeIn K cd28 "least_crowded" = true) (k28 : PySem.W.keepIn K (.ref f28) = true)
    (a29 : PySem.W.nsIn K mainGlobals "first_lots" = some (some (.ref f29))) (l29 : K.lookup f29 = some ⟨oc29, od29, .func (PySem.W.fnOf "first_lots" "first_lots" (defArgs s_first_lots) (defBody s_first_lots) (defScope s_first_lots) .none kV29 dc29 pm29 an29 cd29 ct29), sl29⟩) (c29 : PySem.W.codeIn K cd29 "first_lots" = true) (k29 : PySem.W.keepIn K (.ref f29) = true)
    (a30 : PySem.W.nsIn K mainGlobals "bar" = some (some (.ref f30))) (l30 : K.lookup f30 = some ⟨oc30, od30, .func (PySem.W.fnOf "bar" "bar" (defArgs s_bar) (defBody s_bar) (defScope s_bar) .none kV30 dc30 pm30 an30 cd30 ct30), sl30⟩) (c30 : PySem.W.codeIn K cd30 "bar" = true) (k30 : PySem.W.keepIn K (.ref f30) = true)
    (a31 : PySem.W.nsIn K mainGlobals "apart" = some (some (.ref f31))) (l31 : K.lookup f31 = some ⟨oc31, od31, .func (PySem.W.fnOf "apart" "apart" (defArgs s_apart) (defBody s_apart) (defScope s_apart) .none kV31 dc31 pm31 an31 cd31 ct31), sl31⟩) (c31 : PySem.W.codeIn K cd31 "apart" = true) (k31 : PySem.W.keepIn K (.ref f31) = true)
    (a32 : PySem.W.nsIn K mainGlobals "_law_is_integer" = some (some (.ref f32))) (l32 : K.lookup f32 = some ⟨oc32, od32, .func (PySem.W.fnOf "_law_is_integer" "_law_is_integer" (defArgs s_law_is_integer) (defBody s_law_is_integer) (defScope s_law_is_integer) .none kV32 dc32 pm32 an32 cd32 ct32), sl32⟩) (c32 : PySem.W.codeIn K cd32 "_law_is_integer" = true) (k32 : PySem.W.keepIn K (.ref f32) = true)
    (a33 : PySem.W.nsIn K mainGlobals "_law_is_set" = some (some (.ref f33))) (l33 : K.lookup f33 = some ⟨oc33, od33, .func (PySem.W.fnOf "_law_is_set" "_law_is_set" (defArgs s_law_is_set) (defBody s_law_is_set) (defScope s_law_is_set) .none kV33 dc33 pm33 an33 cd33 ct33), sl33⟩) (c33 : PySem.W.codeIn K cd33 "_law_is_set" = true) (k33 : PySem.W.keepIn K (.ref f33) = true)
    (a34 : PySem.W.nsIn K mainGlobals "_law_loads" = some (some (.ref f34))) (l34 : K.lookup f34 = some ⟨oc34, od34, .func (PySem.W.fnOf "_law_loads" "_law_loads" (defArgs s_law_loads) (defBody s_law_loads) (defScope s_law_loads) .none kV34 dc34 pm34 an34 cd34 ct34), sl34⟩) (c34 : PySem.W.codeIn K cd34 "_law_loads" = true) (k34 : PySem.W.keepIn K (.ref f34) = true)
    (a35 : PySem.W.nsIn K mainGlobals "_law_is_apart" = some (some (.ref f35))) (l35 : K.lookup f35 = some ⟨oc35, od35, .func (PySem.W.fnOf "_law_is_apart" "_law_is_apart" (defArgs s_law_is_apart) (defBody s_law_is_apart) (defScope s_law_is_apart) .none kV35 dc35 pm35 an35 cd35 ct35), sl35⟩) (c35 : PySem.W.codeIn K cd35 "_law_is_apart" = true) (k35 : PySem.W.keepIn K (.ref f35) = true)
    (a36 : PySem.W.nsIn K mainGlobals "_law_rank" = some (some (.ref f36))) (l36 : K.lookup f36 = some ⟨oc36, od36, .func (PySem.W.fnOf "_law_rank" "_law_rank" (defArgs s_law_rank) (defBody s_law_rank) (defScope s_law_rank) .none kV36 dc36 pm36 an36 cd36 ct36), sl36⟩) (c36 : PySem.W.codeIn K cd36 "_law_rank" = true) (k36 : PySem.W.keepIn K (.ref f36) = true)
    (a37 : PySem.W.nsIn K mainGlobals "_law_bars" = some (some (.ref f37))) (l37 : K.lookup f37 = some ⟨oc37, od37, .func (PySem.W.fnOf "_law_bars" "_law_bars" (defArgs s_law_bars) (defBody s_law_bars) (defScope s_law_bars) .none kV37 dc37 pm37 an37 cd37 ct37), sl37⟩) (c37 : PySem.W.codeIn K cd37 "_law_bars" = true) (k37 : PySem.W.keepIn K (.ref f37) = true)
    (a38 : PySem.W.nsIn K mainGlobals "_law_side" = some (some (.ref f38))) (l38 : K.lookup f38 = some ⟨oc38, od38, .func (PySem.W.fnOf "_law_side" "_law_side" (defArgs s_law_side) (defBody s_law_side) (defScope s_law_side) .none kV38 dc38 pm38 an38 cd38 ct38), sl38⟩) (c38 : PySem.W.codeIn K cd38 "_law_side" = true) (k38 : PySem.W.keepIn K (.ref f38) = true)
    (a39 : PySem.W.nsIn K mainGlobals "_things_in_a_lot" = some (some (.ref f39))) (l39 : K.lookup f39 = some ⟨oc39, od39, .func (PySem.W.fnOf "_things_in_a_lot" "_things_in_a_lot" (defArgs s_things_in_a_lot) (defBody s_things_in_a_lot) (defScope s_things_in_a_lot) .none kV39 dc39 pm39 an39 cd39 ct39), sl39⟩) (c39 : PySem.W.codeIn K cd39 "_things_in_a_lot" = true) (k39 : PySem.W.keepIn K (.ref f39) = true)
    (a40 : PySem.W.nsIn K mainGlobals "union" = some (some (.ref f40))) (l40 : K.lookup f40 = some ⟨oc40, od40, .func (PySem.W.fnOf "union" "union" (defArgs s_union) (defBody s_union) (defScope s_union) .none kV40 dc40 pm40 an40 cd40 ct40), sl40⟩) (c40 : PySem.W.codeIn K cd40 "union" = true) (k40 : PySem.W.keepIn K (.ref f40) = true)
    (a41 : PySem.W.nsIn K mainGlobals "together" = some (some (.ref f41))) (l41 : K.lookup f41 = some ⟨oc41, od41, .func (PySem.W.fnOf "together" "together" (defArgs s_together) (defBody s_together) (defScope s_together) .none kV41 dc41 pm41 an41 cd41 ct41), sl41⟩) (c41 : PySem.W.codeIn K cd41 "together" = true) (k41 : PySem.W.keepIn K (.ref f41) = true)
    (a42 : PySem.W.nsIn K mainGlobals "spare" = some (some (.ref f42))) (l42 : K.lookup f42 = some ⟨oc42, od42, .func (PySem.W.fnOf "spare" "spare" (defArgs s_spare) (defBody s_spare) (defScope s_spare) .none kV42 dc42 pm42 an42 cd42 ct42), sl42⟩) (c42 : PySem.W.codeIn K cd42 "spare" = true) (k42 : PySem.W.keepIn K (.ref f42) = true)
    (a43 : PySem.W.nsIn K mainGlobals "law" = some (some (.ref f43))) (l43 : K.lookup f43 = some ⟨oc43, od43, .func (PySem.W.fnOf "law" "law" (defArgs s_law) (defBody s_law) (defScope s_law) .none kV43 dc43 pm43 an43 cd43 ct43), sl43⟩) (c43 : PySem.W.codeIn K cd43 "law" = true) (k43 : PySem.W.keepIn K (.ref f43) = true)
    (z_len : PySem.W.nsIn K mainGlobals "len" = some none)
    (z_int : PySem.W.nsIn K mainGlobals "int" = some none)
    (z_bool : PySem.W.nsIn K mainGlobals "bool" = some none)
    (z_abs : PySem.W.nsIn K mainGlobals "abs" = some none)
    (z_tuple : PySem.W.nsIn K mainGlobals "tuple" = some none)
    (z_list : PySem.W.nsIn K mainGlobals "list" = some none)
    (z_sum : PySem.W.nsIn K mainGlobals "sum" = some none)
    (z_max : PySem.W.nsIn K mainGlobals "max" = some none)
    (z_min : PySem.W.nsIn K mainGlobals "min" = some none)
    (z_any : PySem.W.nsIn K mainGlobals "any" = some none)
    (z_all : PySem.W.nsIn K mainGlobals "all" = some none)
    (z_range : PySem.W.nsIn K mainGlobals "range" = some none)
    (z_isinstance : PySem.W.nsIn K mainGlobals "isinstance" = some none)
    (z_sorted : PySem.W.nsIn K mainGlobals "sorted" = some none)
    (z_enumerate : PySem.W.nsIn K mainGlobals "enumerate" = some none)
    (z_zip : PySem.W.nsIn K mainGlobals "zip" = some none)
    (z_set : PySem.W.nsIn K mainGlobals "set" = some none) :
    ∃ fd : FuncData, (∀ (s : Shared) (v : Value), BindsTo s fd ⟨[v], []⟩ [("script", v)]) ∧ ∀ base : Heap, K.In base → base.Ns mainGlobals mg → FnOk l.prog w K mg base (L2N.CX l.prog w) 11 fa fd ["script"] (spD K [] m_law_k52) := by
  have e := hfa.symm.trans (PySem.W.mg_of X G a43)
  cases e
  have B : Bi mg := ⟨PySem.W.mg_none_of X G z_len, PySem.W.mg_none_of X G z_int, PySem.W.mg_none_of X G z_bool, PySem.W.mg_none_of X G z_abs, PySem.W.mg_none_of X G z_tuple, PySem.W.mg_none_of X G z_list, PySem.W.mg_none_of X G z_sum, PySem.W.mg_none_of X G z_max, PySem.W.mg_none_of X G z_min, PySem.W.mg_none_of X G z_any, PySem.W.mg_none_of X G z_all, PySem.W.mg_none_of X G z_range, PySem.W.mg_none_of X G z_isinstance, PySem.W.mg_none_of X G z_sorted, PySem.W.mg_none_of X G z_enumerate, PySem.W.mg_none_of X G z_zip, PySem.W.mg_none_of X G z_set⟩
  have F1 := fun_mk (st := s_law_draws) l1 c1 k1
  have b1 := F1.binds (ps := ["cell", "count"]) fun _ _ _ _ _ _ us hl => match us, hl with | [_, _], _ => rfl
  have F2 := fun_mk (st := s_law_parts_of) l2 c2 k2
  have b2 := F2.binds (ps := ["size"]) fun _ _ _ _ _ _ us hl => match us, hl with | [_], _ => rfl
  have F3 := fun_mk (st := s_law_rest) l3 c3 k3
  have b3 := F3.binds (ps := ["row", "size"]) fun _ _ _ _ _ _ us hl => match us, hl with | [_, _], _ => rfl
  have F4 := fun_mk (st := s_law_count) l4 c4 k4
  have b4 := F4.binds (ps := ["row", "classes", "c"]) fun _ _ _ _ _ _ us hl => match us, hl with | [_, _, _], _ => rfl
  have F5 := fun_mk (st := s_law_smooth_lots) l5 c5 k5
  have b5 := F5.binds (ps := ["cell", "size"]) fun _ _ _ _ _ _ us hl => match us, hl with | [_, _], _ => rfl
  have F6 := fun_mk (st := s_law_cell) l6 c6 k6
  have b6 := F6.binds (ps := ["script", "k"]) fun _ _ _ _ _ _ us hl => match us, hl with | [_, _], _ => rfl
  have F7 := fun_mk (st := s_law_offers) l7 c7 k7
  have b7 := F7.binds (ps := ["script", "first", "size", "count"]) fun _ _ _ _ _ _ us hl => match us, hl with | [_, _, _, _], _ => rfl
  have F8 := fun_mk (st := s_limited_game) l8 c8 k8
  have b8 := F8.binds (ps := ["offers", "limit"]) fun _ _ _ _ _ _ us hl => match us, hl with | [_, _], _ => rfl
  have F9 := fun_mk (st := s_known_lots) l9 c9 k9
  have b9 := F9.binds (ps := ["offer"]) fun _ _ _ _ _ _ us hl => match us, hl with | [_], _ => rfl
  have F10 := fun_mk (st := s_difference) l10 c10 k10
  have b10 := F10.binds (ps := ["first", "second"]) fun _ _ _ _ _ _ us hl => match us, hl with | [_, _], _ => rfl
  have F11 := fun_mk (st := s_things_missing) l11 c11 k11
  have b11 := F11.binds (ps := ["size", "lot"]) fun _ _ _ _ _ _ us hl => match us, hl with | [_, _], _ => rfl
  have F12 := fun_mk (st := s_put_in) l12 c12 k12
  have b12 := F12.binds (ps := ["things", "into"]) fun _ _ _ _ _ _ us hl => match us, hl with | [_, _], _ => rfl
  have F13 := fun_mk (st := s_leave_out) l13 c13 k13
  have b13 := F13.binds (ps := ["things", "out"]) fun _ _ _ _ _ _ us hl => match us, hl with | [_, _], _ => rfl
  have F14 := fun_mk (st := s_exchange) l14 c14 k14
  have b14 := F14.binds (ps := ["things", "out", "into"]) fun _ _ _ _ _ _ us hl => match us, hl with | [_, _, _], _ => rfl
  have F15 := fun_mk (st := s_replacements) l15 c15 k15
  have b15 := F15.binds (ps := ["offer", "known", "lot", "out"]) fun _ _ _ _ _ _ us hl => match us, hl with | [_, _, _, _], _ => rfl
  have F16 := fun_mk (st := s_exchanges_of) l16 c16 k16
  have b16 := F16.binds (ps := ["game", "choice"]) fun _ _ _ _ _ _ us hl => match us, hl with | [_, _], _ => rfl
  have F17 := fun_mk (st := s_steps_from) l17 c17 k17
  have b17 := F17.binds (ps := ["exchanges", "start"]) fun _ _ _ _ _ _ us hl => match us, hl with | [_, _], _ => rfl
  have F18 := fun_mk (st := s_chains_of) l18 c18 k18
  have b18 := F18.binds (ps := ["game", "choice"]) fun _ _ _ _ _ _ us hl => match us, hl with | [_, _], _ => rfl
  have F19 := fun_mk (st := s_count_loads) l19 c19 k19
  have b19 := F19.binds (ps := ["size", "players", "choice"]) fun _ _ _ _ _ _ us hl => match us, hl with | [_, _, _], _ => rfl
  have F20 := fun_mk (st := s_players) l20 c20 k20
  have b20 := F20.binds (ps := ["game"]) fun _ _ _ _ _ _ us hl => match us, hl with | [_], _ => rfl
  have F21 := fun_mk (st := s_loads) l21 c21 k21
  have b21 := F21.binds (ps := ["game", "choice"]) fun _ _ _ _ _ _ us hl => match us, hl with | [_, _], _ => rfl
  have F22 := fun_mk (st := s_bar_behind) l22 c22 k22
  have b22 := F22.binds (ps := ["offers", "limit", "choice"]) fun _ _ _ _ _ _ us hl => match us, hl with | [_, _, _], _ => rfl
  have F23 := fun_mk (st := s_with_lot) l23 c23 k23
  have b23 := F23.binds (ps := ["choice", "taker", "lot"]) fun _ _ _ _ _ _ us hl => match us, hl with | [_, _, _], _ => rfl
  have F24 := fun_mk (st := s_behind_chain) l24 c24 k24
  have b24 := F24.binds (ps := ["choice", "steps", "end"]) fun _ _ _ _ _ _ us hl => match us, hl with | [_, _, _], _ => rfl
  have F25 := fun_mk (st := s_cost_at) l25 c25 k25
  have b25 := F25.binds (ps := ["costs", "thing", "load"]) fun _ _ _ _ _ _ us hl => match us, hl with | [_, _, _], _ => rfl
  have F26 := fun_mk (st := s_lessened) l26 c26 k26
  have b26 := F26.binds (ps := ["game", "choice"]) fun _ _ _ _ _ _ us hl => match us, hl with | [_, _], _ => rfl
  have F27 := fun_mk (st := s_least_from) l27 c27 k27
  have b27 := F27.binds (ps := ["game", "choice"]) fun _ _ _ _ _ _ us hl => match us, hl with | [_, _], _ => rfl
  have F28 := fun_mk (st := s_least_crowded) l28 c28 k28
  have b28 := F28.binds (ps := ["offers", "limit", "choice"]) fun _ _ _ _ _ _ us hl => match us, hl with | [_, _, _], _ => rfl
  have F29 := fun_mk (st := s_first_lots) l29 c29 k29
  have b29 := F29.binds (ps := ["offers"]) fun _ _ _ _ _ _ us hl => match us, hl with | [_], _ => rfl
  have F30 := fun_mk (st := s_bar) l30 c30 k30
  have b30 := F30.binds (ps := ["offers", "limit"]) fun _ _ _ _ _ _ us hl => match us, hl with | [_, _], _ => rfl
  have F31 := fun_mk (st := s_apart) l31 c31 k31
  have b31 := F31.binds (ps := ["offers", "limit"]) fun _ _ _ _ _ _ us hl => match us, hl with | [_, _], _ => rfl
  have F32 := fun_mk (st := s_law_is_integer) l32 c32 k32
  have b32 := F32.binds (ps := ["value"]) fun _ _ _ _ _ _ us hl => match us, hl with | [_], _ => rfl
  have F33 := fun_mk (st := s_law_is_set) l33 c33 k33
  have b33 := F33.binds (ps := ["value", "size"]) fun _ _ _ _ _ _ us hl => match us, hl with | [_, _], _ => rfl
  have F34 := fun_mk (st := s_law_loads) l34 c34 k34
  have b34 := F34.binds (ps := ["choice", "size"]) fun _ _ _ _ _ _ us hl => match us, hl with | [_, _], _ => rfl
  have F35 := fun_mk (st := s_law_is_apart) l35 c35 k35
  have b35 := F35.binds (ps := ["told", "offers", "limit"]) fun _ _ _ _ _ _ us hl => match us, hl with | [_, _, _], _ => rfl
  have F36 := fun_mk (st := s_law_rank) l36 c36 k36
  have b36 := F36.binds (ps := ["things", "lots"]) fun _ _ _ _ _ _ us hl => match us, hl with | [_, _], _ => rfl
  have F37 := fun_mk (st := s_law_bars) l37 c37 k37
  have b37 := F37.binds (ps := ["offers", "limit", "things"]) fun _ _ _ _ _ _ us hl => match us, hl with | [_, _, _], _ => rfl
  have F38 := fun_mk (st := s_law_side) l38 c38 k38
  have b38 := F38.binds (ps := ["offers", "limit", "turned"]) fun _ _ _ _ _ _ us hl => match us, hl with | [_, _, _], _ => rfl
  have F39 := fun_mk (st := s_things_in_a_lot) l39 c39 k39
  have b39 := F39.binds (ps := ["offer"]) fun _ _ _ _ _ _ us hl => match us, hl with | [_], _ => rfl
  have F40 := fun_mk (st := s_union) l40 c40 k40
  have b40 := F40.binds (ps := ["first", "second"]) fun _ _ _ _ _ _ us hl => match us, hl with | [_, _], _ => rfl
  have F41 := fun_mk (st := s_together) l41 c41 k41
  have b41 := F41.binds (ps := ["first", "second"]) fun _ _ _ _ _ _ us hl => match us, hl with | [_, _], _ => rfl
  have F42 := fun_mk (st := s_spare) l42 c42 k42
  have b42 := F42.binds (ps := ["first", "second"]) fun _ _ _ _ _ _ us hl => match us, hl with | [_, _], _ => rfl
  have F43 := fun_mk (st := s_law) l43 c43 k43
  refine ⟨PySem.W.fnOf "law" "law" (defArgs s_law) (defBody s_law) (defScope s_law) .none kV43 dc43 pm43 an43 cd43 ct43, fun s v => .of_eq rfl, fun base _ _ => ?_⟩
  have D1 := ok_law_draws (P := l.prog) (w := w) (base := base) (Tb := []) F1 (PySem.W.mg_of X G a1) b1 B
  have D2 := ok_law_parts_of (P := l.prog) (w := w) (base := base) (Tb := []) F2 (PySem.W.mg_of X G a2) b2 B
  have D3 := ok_law_rest (P := l.prog) (w := w) (base := base) (Tb := []) F3 (PySem.W.mg_of X G a3) b3 B
  have D4 := ok_law_count (P := l.prog) (w := w) (base := base) (Tb := []) F4 (PySem.W.mg_of X G a4) b4 B
  have D5 := ok_law_smooth_lots (P := l.prog) (w := w) (base := base) (Tb := []) F5 D1 D2 D3 D4 (PySem.W.mg_of X G a5) b5 B
  have D6 := ok_law_cell (P := l.prog) (w := w) (base := base) (Tb := []) F6 (PySem.W.mg_of X G a6) b6 B
  have D7 := ok_law_offers (P := l.prog) (w := w) (base := base) (Tb := []) F7 D5 D6 D1 (PySem.W.mg_of X G a7) b7 B
  have D8 := ok_limited_game (P := l.prog) (w := w) (base := base) (Tb := []) F8 (PySem.W.mg_of X G a8) b8 B
  have D9 := ok_known_lots (P := l.prog) (w := w) (base := base) (Tb := []) F9 (PySem.W.mg_of X G a9) b9 B
  have D10 := ok_difference (P := l.prog) (w := w) (base := base) (Tb := []) F10 (PySem.W.mg_of X G a10) b10 B
  have D11 := ok_things_missing (P := l.prog) (w := w) (base := base) (Tb := []) F11 D10 (PySem.W.mg_of X G a11) b11 B
  have D12 := ok_put_in (P := l.prog) (w := w) (base := base) (Tb := []) F12 (PySem.W.mg_of X G a12) b12 B
  have D13 := ok_leave_out (P := l.prog) (w := w) (base := base) (Tb := []) F13 (PySem.W.mg_of X G a13) b13 B
  have D14 := ok_exchange (P := l.prog) (w := w) (base := base) (Tb := []) F14 D12 D13 (PySem.W.mg_of X G a14) b14 B
  have D15 := ok_replacements (P := l.prog) (w := w) (base := base) (Tb := []) F15 D11 D14 (PySem.W.mg_of X G a15) b15 B
  have D16 := ok_exchanges_of (P := l.prog) (w := w) (base := base) (Tb := []) F16 D9 D15 (PySem.W.mg_of X G a16) b16 B
  have D17 := ok_steps_from (P := l.prog) (w := w) (base := base) (Tb := []) F17 (PySem.W.mg_of X G a17) b17 B
  have D18 := ok_chains_of (P := l.prog) (w := w) (base := base) (Tb := []) F18 D16 D17 (PySem.W.mg_of X G a18) b18 B
  have D19 := ok_count_loads (P := l.prog) (w := w) (base := base) (Tb := []) F19 (PySem.W.mg_of X G a19) b19 B
  have D20 := ok_players (P := l.prog) (w := w) (base := base) (Tb := []) F20 (PySem.W.mg_of X G a20) b20 B
  have D21 := ok_loads (P := l.prog) (w := w) (base := base) (Tb := []) F21 D19 D20 (PySem.W.mg_of X G a21) b21 B
  have D22 := ok_bar_behind (P := l.prog) (w := w) (base := base) (Tb := []) F22 D8 D18 D10 D21 (PySem.W.mg_of X G a22) b22 B
  have D23 := ok_with_lot (P := l.prog) (w := w) (base := base) (Tb := []) F23 (PySem.W.mg_of X G a23) b23 B
  have D24 := ok_behind_chain (P := l.prog) (w := w) (base := base) (Tb := []) F24 D23 D14 (PySem.W.mg_of X G a24) b24 B
  have D25 := ok_cost_at (P := l.prog) (w := w) (base := base) (Tb := []) F25 (PySem.W.mg_of X G a25) b25 B
  have D26 := ok_lessened (P := l.prog) (w := w) (base := base) (Tb := []) F26 D21 D18 D24 D25 (PySem.W.mg_of X G a26) b26 B
  have D27 := ok_least_from (P := l.prog) (w := w) (base := base) (Tb := []) F27 D26 (PySem.W.mg_of X G a27) b27 B
  have D28 := ok_least_crowded (P := l.prog) (w := w) (base := base) (Tb := []) F28 D27 D8 (PySem.W.mg_of X G a28) b28 B
  have D29 := ok_first_lots (P := l.prog) (w := w) (base := base) (Tb := []) F29 (PySem.W.mg_of X G a29) b29 B
  have D30 := ok_bar (P := l.prog) (w := w) (base := base) (Tb := []) F30 D22 D28 D29 (PySem.W.mg_of X G a30) b30 B
  have D31 := ok_apart (P := l.prog) (w := w) (base := base) (Tb := []) F31 D28 D29 D22 (PySem.W.mg_of X G a31) b31 B
  have D32 := ok_law_is_integer (P := l.prog) (w := w) (base := base) (Tb := []) F32 (PySem.W.mg_of X G a32) b32 B
  have D33 := ok_law_is_set (P := l.prog) (w := w) (base := base) (Tb := []) F33 D32 (PySem.W.mg_of X G a33) b33 B
  have D34 := ok_law_loads (P := l.prog) (w := w) (base := base) (Tb := []) F34 (PySem.W.mg_of X G a34) b34 B
  have D35 := ok_law_is_apart (P := l.prog) (w := w) (base := base) (Tb := []) F35 D33 D34 (PySem.W.mg_of X G a35) b35 B
  have D36 := ok_law_rank (P := l.prog) (w := w) (base := base) (Tb := []) F36 (PySem.W.mg_of X G a36) b36 B
  have D37 := ok_law_bars (P := l.prog) (w := w) (base := base) (Tb := []) F37 D36 (PySem.W.mg_of X G a37) b37 B
  have D38 := ok_law_side (P := l.prog) (w := w) (base := base) (Tb := []) F38 D30 D31 D35 D33 D37 (PySem.W.mg_of X G a38) b38 B
  have D39 := ok_things_in_a_lot (P := l.prog) (w := w) (base := base) (Tb := []) F39 (PySem.W.mg_of X G a39) b39 B
  have D40 := ok_union (P := l.prog) (w := w) (base := base) (Tb := []) F40 (PySem.W.mg_of X G a40) b40 B
  have D41 := ok_together (P := l.prog) (w := w) (base := base) (Tb := []) F41 D40 (PySem.W.mg_of X G a41) b41 B
  have D42 := ok_spare (P := l.prog) (w := w) (base := base) (Tb := []) F42 D39 D41 (PySem.W.mg_of X G a42) b42 B
  exact okF_law F43 D1 D7 D38 D42 D6 D32 B
end LW
open PySem PySem.W PyProof.Rows
set_option maxHeartbeats 0 in
theorem PySem.Challenge.cw_takersrest_k52_whole_apart_or_bar_holds : PySem.Challenge.rw_takersrest_k52_whole_apart_or_bar.Holds := by
  w_on; o_law; k_head; (case hw => w_witness2)
  k_fill
  refine L2.walk_of (l := PySem.Challenge.rw_takersrest_k52_whole_apart_or_bar) (n := 63) (k := 11) (x := "script") (CX := fun w => L2N.CX PySem.Challenge.rw_takersrest_k52_whole_apart_or_bar.prog w) (sp := fun w => PD.spD _ [] LW.m_law_k52) rfl (by decide) rfl ⟨rfl, by decide, by decide⟩ (fun w h Y => by first | exact PySem.W.kIn_of Y | exact PySem.W.km_in_of Y) ?F (fun _ _ a ns hl hH hS => PD.spD_law0 LW.main_k52 hl hS) PD.cx_no
  case F =>
    intro w mg fa h KX G hmg
    refine' LW.all_mk KX G hmg ?a1 ?l1 ?c1 ?k1 ?a2 ?l2 ?c2 ?k2 ?a3 ?l3 ?c3 ?k3 ?a4 ?l4 ?c4 ?k4 ?a5 ?l5 ?c5 ?k5 ?a6 ?l6 ?c6 ?k6 ?a7 ?l7 ?c7 ?k7 ?a8 ?l8 ?c8 ?k8 ?a9 ?l9 ?c9 ?k9 ?a10 ?l10 ?c10 ?k10 ?a11 ?l11 ?c11 ?k11 ?a12 ?l12 ?c12 ?k12 ?a13 ?l13 ?c13 ?k13 ?a14 ?l14 ?c14 ?k14 ?a15 ?l15 ?c15 ?k15 ?a16 ?l16 ?c16 ?k16 ?a17 ?l17 ?c17 ?k17 ?a18 ?l18 ?c18 ?k18 ?a19 ?l19 ?c19 ?k19 ?a20 ?l20 ?c20 ?k20 ?a21 ?l21 ?c21 ?k21 ?a22 ?l22 ?c22 ?k22 ?a23 ?l23 ?c23 ?k23 ?a24 ?l24 ?c24 ?k24 ?a25 ?l25 ?c25 ?k25 ?a26 ?l26 ?c26 ?k26 ?a27 ?l27 ?c27 ?k27 ?a28 ?l28 ?c28 ?k28 ?a29 ?l29 ?c29 ?k29 ?a30 ?l30 ?c30 ?k30 ?a31 ?l31 ?c31 ?k31 ?a32 ?l32 ?c32 ?k32 ?a33 ?l33 ?c33 ?k33 ?a34 ?l34 ?c34 ?k34 ?a35 ?l35 ?c35 ?k35 ?a36 ?l36 ?c36 ?k36 ?a37 ?l37 ?c37 ?k37 ?a38 ?l38 ?c38 ?k38 ?a39 ?l39 ?c39 ?k39 ?a40 ?l40 ?c40 ?k40 ?a41 ?l41 ?c41 ?k41 ?a42 ?l42 ?c42 ?k42 ?a43 ?l43 ?c43 ?k43 ?z_len ?z_int ?z_bool ?z_abs ?z_tuple ?z_list ?z_sum ?z_max ?z_min ?z_any ?z_all ?z_range ?z_isinstance ?z_sorted ?z_enumerate ?z_zip ?z_set
    (case a1 => k_is); (case l1 => k_is); (case c1 => k_is); (case k1 => k_is); (case a2 => k_is); (case l2 => k_is); (case c2 => k_is); (case k2 => k_is); (case a3 => k_is); (case l3 => k_is); (case c3 => k_is); (case k3 => k_is); (case a4 => k_is); (case l4 => k_is); (case c4 => k_is); (case k4 => k_is); (case a5 => k_is); (case l5 => k_is); (case c5 => k_is); (case k5 => k_is); (case a6 => k_is); (case l6 => k_is); (case c6 => k_is); (case k6 => k_is); (case a7 => k_is); (case l7 => k_is); (case c7 => k_is); (case k7 => k_is); (case a8 => k_is); (case l8 => k_is); (case c8 => k_is); (case k8 => k_is); (case a9 => k_is); (case l9 => k_is); (case c9 => k_is); (case k9 => k_is); (case a10 => k_is); (case l10 => k_is); (case c10 => k_is); (case k10 => k_is); (case a11 => k_is); (case l11 => k_is); (case c11 => k_is); (case k11 => k_is); (case a12 => k_is); (case l12 => k_is); (case c12 => k_is); (case k12 => k_is); (case a13 => k_is); (case l13 => k_is); (case c13 => k_is); (case k13 => k_is); (case a14 => k_is); (case l14 => k_is); (case c14 => k_is); (case k14 => k_is); (case a15 => k_is); (case l15 => k_is); (case c15 => k_is); (case k15 => k_is); (case a16 => k_is); (case l16 => k_is); (case c16 => k_is); (case k16 => k_is); (case a17 => k_is); (case l17 => k_is); (case c17 => k_is); (case k17 => k_is); (case a18 => k_is); (case l18 => k_is); (case c18 => k_is); (case k18 => k_is); (case a19 => k_is); (case l19 => k_is); (case c19 => k_is); (case k19 => k_is); (case a20 => k_is); (case l20 => k_is); (case c20 => k_is); (case k20 => k_is); (case a21 => k_is); (case l21 => k_is); (case c21 => k_is); (case k21 => k_is); (case a22 => k_is); (case l22 => k_is); (case c22 => k_is); (case k22 => k_is); (case a23 => k_is); (case l23 => k_is); (case c23 => k_is); (case k23 => k_is); (case a24 => k_is); (case l24 => k_is); (case c24 => k_is); (case k24 => k_is); (case a25 => k_is); (case l25 => k_is); (case c25 => k_is); (case k25 => k_is); (case a26 => k_is); (case l26 => k_is); (case c26 => k_is); (case k26 => k_is); (case a27 => k_is); (case l27 => k_is); (case c27 => k_is); (case k27 => k_is); (case a28 => k_is); (case l28 => k_is); (case c28 => k_is); (case k28 => k_is); (case a29 => k_is); (case l29 => k_is); (case c29 => k_is); (case k29 => k_is); (case a30 => k_is); (case l30 => k_is); (case c30 => k_is); (case k30 => k_is); (case a31 => k_is); (case l31 => k_is); (case c31 => k_is); (case k31 => k_is); (case a32 => k_is); (case l32 => k_is); (case c32 => k_is); (case k32 => k_is); (case a33 => k_is); (case l33 => k_is); (case c33 => k_is); (case k33 => k_is); (case a34 => k_is); (case l34 => k_is); (case c34 => k_is); (case k34 => k_is); (case a35 => k_is); (case l35 => k_is); (case c35 => k_is); (case k35 => k_is); (case a36 => k_is); (case l36 => k_is); (case c36 => k_is); (case k36 => k_is); (case a37 => k_is); (case l37 => k_is); (case c37 => k_is); (case k37 => k_is); (case a38 => k_is); (case l38 => k_is); (case c38 => k_is); (case k38 => k_is); (case a39 => k_is); (case l39 => k_is); (case c39 => k_is); (case k39 => k_is); (case a40 => k_is); (case l40 => k_is); (case c40 => k_is); (case k40 => k_is); (case a41 => k_is); (case l41 => k_is); (case c41 => k_is); (case k41 => k_is); (case a42 => k_is); (case l42 => k_is); (case c42 => k_is); (case k42 => k_is); (case a43 => k_is); (case l43 => k_is); (case c43 => k_is); (case k43 => k_is); (case z_len => k_is); (case z_int => k_is); (case z_bool => k_is); (case z_abs => k_is); (case z_tuple => k_is); (case z_list => k_is); (case z_sum => k_is); (case z_max => k_is); (case z_min => k_is); (case z_any => k_is); (case z_all => k_is); (case z_range => k_is); (case z_isinstance => k_is); (case z_sorted => k_is); (case z_enumerate => k_is); (case z_zip => k_is); (case z_set => k_is)
