import PyProof.Rows.All
import Wide.All
import OpenK.AllK
import Wide.FinOn
import HandS.ExcCtx
import HandS.ForMost
import HandS.ForExc
import HandS.AnyAll
import HandS.Deep
import HandS.Wide
import HandS.TupAny
import HandS.IsInst
import PyProof.DictKinds
import HandS.DictComp
import HandS.Lambda
import KE.SortData
import HandS.GenList
import HandS.Conv
import HandS.EndTab
import HandS.TupLe
import KE.GoesEnum
import KE.DataMinKey
import KE.KLam
import KE.DataMinMax
import HandS.SetFor
import HandS.Strs
import KE.KExcIs
import KE.KTupSum
import KE.KExcPX
import KE.KExcInit
import KE.KExcSuper
import OpenK.KCls
import HandS.HotCalls
import HandS.SortKw
import KE.GoesEnumKw
import KE.KDictDisplayH
import HandS.NamedTupSort
import HandS.SetBool
import HandS.TupSets
import HandS.RepeatKit
import HandS.MapObj
import PyProof.ListNew
import PyProof.Rows.SortShell
import HandS.ExcValue
import HandS.ExcInit
import PyProof.AutoListH
import PyProof.ListIndexOut
import HandS.CallSlots
import PySem.Challenge.RW_takersrest_k66_refused_moves
set_option Elab.async false
set_option linter.all false
set_option maxRecDepth 100000
set_option maxHeartbeats 1000000
namespace PD
open PySem PySem.Spec PyProof.Rows L2
structure Ex where
  cls : Addr
  fs : List (Str × PyData)
inductive R (α : Type) where
  | ok (a : α)
  | exc (e : Ex)
  | bad
def R.bind {α β : Type} (x : R α) (f : α → R β) : R β := match x with
  | .ok a => f a
  | .exc e => .exc e
  | .bad => .bad
instance : Monad R where
  pure := .ok
  bind := R.bind
@[simp] theorem R.bind_ok {α β : Type} (a : α) (f : α → R β) : (R.ok a >>= f) = f a := rfl
@[simp] theorem R.bind_exc {α β : Type} (e : Ex) (f : α → R β) : ((R.exc e : R α) >>= f) = R.exc e := rfl
@[simp] theorem R.bind_bad {α β : Type} (f : α → R β) : ((R.bad : R α) >>= f) = R.bad := rfl
@[simp] theorem R.pure_eq {α : Type} (a : α) : (pure a : R α) = R.ok a := rfl
/-- the table of a code object at P: what it tells are code objects that are known -/
def TabC (H : Hp) (P : Addr) : Prop := ∃ ps : Array Value, H P = some (.tbl ps) ∧ TriplesOk ps.toList ∧ ∀ (pos : Pos) (cv : Value), codeAmong pos ps.toList = some cv → ∃ c q, cv = .ref c ∧ H c = some (LamX.CodeO c q)
theorem TabC.mono {H H' : Hp} {b : Addr} (t : TabC H b) (e : ∀ ps, H b = some (.tbl ps) → H' b = some (.tbl ps)) (k : ∀ c q, H c = some (LamX.CodeO c q) → H' c = some (LamX.CodeO c q)) : TabC H' b := by
  obtain ⟨ps, h, z, q⟩ := t
  refine ⟨ps, e ps h, z, fun pos cv hc => ?_⟩
  obtain ⟨c, n, e1, e2⟩ := q pos cv hc
  exact ⟨c, n, e1, k c n e2⟩
theorem TabC.nil {H : Hp} {b : Addr} (h : H b = some (.tbl #[])) : TabC H b := ⟨#[], h, True.intro, fun pos cv hc => by
  have z : codeAmong pos [] = some cv := hc
  simp [codeAmong] at z⟩
/-- an object that is no code object and no table -/
def Plain (o : HO) : Prop := (∀ c q, o ≠ LamX.CodeO c q) ∧ ∀ ps, o ≠ .tbl ps
theorem plain_lst (l : List V) : Plain (.lst l) := ⟨fun _ _ h => (by unfold LamX.CodeO at h; cases h), fun _ h => (by cases h)⟩
structure Ext (H H' : Hp) : Prop where
  keep : ∀ b o, H b = some o → (∀ ps, o ≠ .tbl ps) → H' b = some o
  tab : ∀ b, TabC H b → TabC H' b
  al : ∀ b, H b ≠ none → H' b ≠ none
theorem Ext.refl (H : Hp) : Ext H H := ⟨fun _ _ h _ => h, fun _ h => h, fun _ h => h⟩
theorem Ext.trans {H H1 H2 : Hp} (a : Ext H H1) (b : Ext H1 H2) : Ext H H2 :=
  ⟨fun c o h n => b.keep c o (a.keep c o h n) n, fun c h => b.tab c (a.tab c h), fun c h => b.al c (a.al c h)⟩
theorem Ext.new {H : Hp} {p : Addr} {o : HO} (h : H p = none) : Ext H (upd H p o) := by
  refine ⟨fun b x e n => ?_, fun b t => ?_, fun b e => ?_⟩
  · rw [upd_ne (ne_of_none e h)]; exact e
  · exact t.mono (fun ps e => by rw [upd_ne (ne_of_none e h)]; exact e) fun c q e => by rw [upd_ne (ne_of_none e h)]; exact e
  · by_cases hb : b = p
    · rw [hb, upd_same]; simp
    · rw [upd_ne hb]; exact e
/-- the heap without the addresses O -/
def hide (O : List Addr) (H : Hp) : Hp := fun b => if b ∈ O then none else H b
theorem hide_out {O : List Addr} {H : Hp} {b : Addr} (h : b ∉ O) : hide O H b = H b := by unfold hide; rw [if_neg h]
theorem hide_some {O : List Addr} {H : Hp} {b : Addr} {o : HO} (h : hide O H b = some o) : b ∉ O ∧ H b = some o := by
  unfold hide at h
  split at h
  · cases h
  · exact ⟨by assumption, h⟩
/-- what reading data leans on -/
def Sub (G G' : Hp) : Prop := ∀ b o, G b = some o → (∀ ps, o ≠ .tbl ps) → G' b = some o
theorem Sub.trans {G G1 G2 : Hp} (a : Sub G G1) (b : Sub G1 G2) : Sub G G2 := fun c o h n => b c o (a c o h n) n
theorem Sub.ext {H H' : Hp} (e : Ext H H') : Sub H H' := e.keep
theorem Sub.hide {O : List Addr} {H H' : Hp} (e : Sub H H') : Sub (hide O H) (PD.hide O H') := fun b o h n => by
  obtain ⟨h1, h2⟩ := hide_some h
  rw [hide_out h1]
  exact e b o h2 n
theorem Sub.less {O O' : List Addr} {H : Hp} (e : ∀ b ∈ O', b ∈ O) : Sub (PD.hide O H) (PD.hide O' H) := fun b o h n => by
  obtain ⟨h1, h2⟩ := hide_some h
  rw [hide_out fun m => h1 (e b m)]
  exact h2
theorem Sub.unhide {O : List Addr} {H : Hp} : Sub (PD.hide O H) H := fun b o h n => (hide_some h).2
theorem Sub.sqL {K : PySem.W.Frag} {G G' : Hp} {a : Addr} {xs : List V} (s : Sub G G') (h : SqL K G a xs) : SqL K G' a xs := by
  rcases h with (h | ⟨o, h⟩) | h
  · exact .inl (.inl (s _ _ h fun _ q => by cases q))
  · exact .inl (.inr ⟨o, s _ _ h fun _ q => by cases q⟩)
  · exact .inr h
theorem Sub.sqT {K : PySem.W.Frag} {G G' : Hp} {a : Addr} {xs : List V} (s : Sub G G') (h : SqT K G a xs) : SqT K G' a xs := by
  rcases h with (h | ⟨o, h⟩) | h
  · exact .inl (.inl (s _ _ h fun _ q => by cases q))
  · exact .inl (.inr ⟨o, s _ _ h fun _ q => by cases q⟩)
  · exact .inr h
abbrev ikt (P : Program) (w : World) : HeapKind P w (List Int) := tupleKind (intKind P w)
def dctO (a : Addr) (ep : Nat) (xs : List (List Int × Addr)) : HO := .ext fun h => (a == sysModules) = false ∧ xs.length ≤ sizeLine ∧ (xs.map (·.1)).Nodup ∧
  ∃ o es, h.get? a = some o ∧ o.ExactDict ∧ o.data = .dict es ep ∧ ∀ (P : Program) (w : World), es.toList = xs.map fun x => entryOfKey (ikt P w) (x.1, x.2, .bool true)
def dctE (x : List Int × Addr) : PyData × PyData := (.tuple (x.1.map .int), .bool true)
mutual
def nod : PyData → Bool
  | .none | .bool _ | .int _ | .str _ => true
  | .list xs | .tuple xs => nodAll xs
  | .dict _ => false
def nodAll : List PyData → Bool
  | [] => true
  | x :: xs => nod x && nodAll xs
end
mutual
theorem nod_of_lay : ∀ {d : PyData}, d.canLay0 = true → nod d = true
  | .none, _ => rfl
  | .bool _, _ => rfl
  | .int _, _ => rfl
  | .str _, _ => rfl
  | .list xs, h => nodAll_of_lay (xs := xs) h
  | .tuple xs, h => nodAll_of_lay (xs := xs) h
  | .dict _, h => by cases h
theorem nodAll_of_lay : ∀ {xs : List PyData}, PyData.canLayAll0 xs = true → nodAll xs = true
  | [], _ => rfl
  | x :: xs, h => by
    have h : (x.canLay0 && PyData.canLayAll0 xs) = true := h
    show (nod x && nodAll xs) = true
    rw [Bool.and_eq_true] at h ⊢
    exact ⟨nod_of_lay h.1, nodAll_of_lay h.2⟩
end
def dkD (ks : List (Int × PyData)) : PyData := .dict ((.bool true, .none) :: ks.map fun x => (.int x.1, x.2))
def obD (C : Addr) (fs : List (Str × PyData)) : PyData := .dict ((.none, .int (C : Int)) :: fs.map fun x => (.str x.1, x.2))
mutual
inductive Rp (K : PySem.W.Frag) (G : Hp) : V → PyData → Prop
  | non : Rp K G .non .none
  | bl (b : Bool) : Rp K G (.bl b) (.bool b)
  | int (i : Int) : Rp K G (.int i) (.int i)
  | str (x : Str) : Rp K G (.str x) (.str x)
  | lst {a : Addr} {xs : List V} {ds : List PyData} : SqL K G a xs → ds.length ≤ sizeLine → RpAll K G xs ds → Rp K G (.ref a) (.list ds)
  | tup {a : Addr} {xs : List V} {ds : List PyData} : SqT K G a xs → ds.length ≤ sizeLine → RpAll K G xs ds → Rp K G (.ref a) (.tuple ds)
  | dct {a : Addr} {ep : Nat} {xs : List (List Int × Addr)} : G a = some (dctO a ep xs) → (∀ x ∈ xs, SqT K G x.2 (x.1.map V.int)) → Rp K G (.ref a) (.dict (xs.map dctE))
  | dk {a : Addr} {o : Obj} {kvs : List (Key × V)} {ks : List (Int × PyData)} : G a = some (.frz o (.dK kvs)) → kvs.map (·.1) = ks.map (fun x => Sum.inl x.1) → RpAll K G (kvs.map (·.2)) (ks.map (·.2)) → Rp K G (.ref a) (dkD ks)
  | ins {a C dx : Addr} {fs : List (Str × V)} {ds : List (Str × PyData)} : G a = some (.ins C dx fs) → fs.map (·.1) = ds.map (·.1) → RpAll K G (fs.map (·.2)) (ds.map (·.2)) → Rp K G (.ref a) (obD C ds)
inductive RpAll (K : PySem.W.Frag) (G : Hp) : List V → List PyData → Prop
  | nil : RpAll K G [] []
  | cons {v : V} {vs : List V} {d : PyData} {ds : List PyData} : Rp K G v d → RpAll K G vs ds → RpAll K G (v :: vs) (d :: ds)
end
section
variable {K : PySem.W.Frag} {G G' : Hp}
theorem Rp.mono (s : Sub G G') {d : PyData} {v : V} (h : Rp K G v d) : Rp K G' v d :=
  Rp.rec (motive_1 := fun v d _ => Rp K G' v d) (motive_2 := fun vs ds _ => RpAll K G' vs ds) .non (fun b => .bl b) (fun i => .int i) (fun x => .str x)
    (fun a z _ b => .lst (s.sqL a) z b) (fun a z _ b => .tup (s.sqT a) z b) (fun a b => .dct (s _ _ a (fun _ q => by cases q)) fun x hx => s.sqT (b x hx))
    (fun a b _ c => .dk (s _ _ a (fun _ q => by cases q)) b c) (fun a b _ c => .ins (s _ _ a (fun _ q => by cases q)) b c) .nil (fun _ _ a b => .cons a b) h
theorem RpAll.mono (s : Sub G G') : ∀ {ds : List PyData} {vs : List V}, RpAll K G vs ds → RpAll K G' vs ds
  | [], _, h => by cases h; exact .nil
  | _ :: _, _, h => by
    cases h with
    | cons a b => exact .cons (Rp.mono s a) (RpAll.mono s b)
mutual
theorem Rp.dp : ∀ {d : PyData} {v : V}, Rp K G v d → nod d = true → Dp K G v d
  | .none, _, h, _ => by cases h; exact .non
  | .bool _, _, h, _ => by cases h; exact .bl _
  | .int _, _, h, _ => by cases h; exact .int _
  | .str _, _, h, _ => by cases h; exact .str _
  | .list _, _, h, n => by
    cases h with
    | lst a z b => exact .lst a (RpAll.dp b n)
  | .tuple _, _, h, n => by
    cases h with
    | tup a z b => exact .tup a (RpAll.dp b n)
  | .dict _, _, h, n => by cases n
theorem RpAll.dp : ∀ {ds : List PyData} {vs : List V}, RpAll K G vs ds → nodAll ds = true → DpAll K G vs ds
  | [], _, h, _ => by cases h; exact .nil
  | d :: ds, _, h, n => by
    have n : (nod d && nodAll ds) = true := n
    rw [Bool.and_eq_true] at n
    cases h with
    | cons a b => exact .cons (Rp.dp a n.1) (RpAll.dp b n.2)
end
mutual
theorem Rp.shaped : ∀ {d : PyData} {v : V}, Rp K G v d → True := fun _ => trivial
end
theorem RpAll.length : ∀ {vs : List V} {ds : List PyData}, RpAll K G vs ds → vs.length = ds.length
  | _, _, .nil => rfl
  | _, _, .cons _ t => by simp [RpAll.length t]
theorem RpAll.get : ∀ {vs : List V} {ds : List PyData} {i : Nat} {v : V}, RpAll K G vs ds → vs[i]? = some v → ∃ d, ds[i]? = some d ∧ Rp K G v d
  | _, _, _, _, .nil, h => by simp at h
  | _, _, 0, _, .cons r _, h => by simp at h; subst h; exact ⟨_, rfl, r⟩
  | _, _, i + 1, _, .cons _ t, h => by
    obtain ⟨d, h1, h2⟩ := RpAll.get (i := i) t (by simpa using h)
    exact ⟨d, by simpa using h1, h2⟩
theorem RpAll.get' : ∀ {vs : List V} {ds : List PyData} {i : Nat} {d : PyData}, RpAll K G vs ds → ds[i]? = some d → ∃ v, vs[i]? = some v ∧ Rp K G v d
  | _, _, _, _, .nil, h => by simp at h
  | _, _, 0, _, .cons r _, h => by simp at h; subst h; exact ⟨_, rfl, r⟩
  | _, _, i + 1, _, .cons _ t, h => by
    obtain ⟨d, h1, h2⟩ := RpAll.get' (i := i) t (by simpa using h)
    exact ⟨d, by simpa using h1, h2⟩
theorem RpAll.append : ∀ {vs ws : List V} {ds es : List PyData}, RpAll K G vs ds → RpAll K G ws es → RpAll K G (vs ++ ws) (ds ++ es)
  | _, _, _, _, .nil, q => q
  | _, _, _, _, .cons r t, q => .cons r (RpAll.append t q)
theorem RpAll.one {v : V} {d : PyData} (h : Rp K G v d) : RpAll K G [v] [d] := .cons h .nil
theorem RpAll.take : ∀ {vs : List V} {ds : List PyData} (n : Nat), RpAll K G vs ds → RpAll K G (vs.take n) (ds.take n)
  | _, _, 0, _ => .nil
  | _, _, _ + 1, .nil => .nil
  | _, _, n + 1, .cons r t => .cons r (RpAll.take n t)
theorem RpAll.drop : ∀ {vs : List V} {ds : List PyData} (n : Nat), RpAll K G vs ds → RpAll K G (vs.drop n) (ds.drop n)
  | _, _, 0, r => r
  | _, _, _ + 1, .nil => .nil
  | _, _, n + 1, .cons _ t => RpAll.drop n t
theorem RpAll.set {v : V} {d : PyData} (r : Rp K G v d) : ∀ {vs : List V} {ds : List PyData} (i : Nat), RpAll K G vs ds → RpAll K G (vs.set i v) (ds.set i d)
  | _, _, _, .nil => .nil
  | _, _, 0, .cons _ t => .cons r t
  | _, _, i + 1, .cons q t => .cons q (RpAll.set r i t)
theorem RpAll.erase : ∀ {vs : List V} {ds : List PyData} (i : Nat), RpAll K G vs ds → RpAll K G (vs.eraseIdx i) (ds.eraseIdx i)
  | _, _, _, .nil => .nil
  | _, _, 0, .cons _ t => t
  | _, _, i + 1, .cons q t => .cons q (RpAll.erase i t)
end
inductive Sl where
  | d (x : PyData)
  | own (xs : List PyData)
  | dct (ks : List (List Int))
  | dk (kvs : List (Int × PyData))
  | exn (a : Addr) (cls : Value) (dd : Option Addr) (e : Ex)
def Sl.Hold : Sl → Prop
  | .own _ => True
  | .dct _ => True
  | .dk _ => True
  | _ => False
abbrev Rho := List (Option Sl)
def ExR (K : PySem.W.Frag) (G H : Hp) (cls : Value) (d : Option Addr) (e : Ex) : Prop :=
  cls = .ref e.cls ∧ ((e.fs = [] ∧ d = none) ∨ ∃ dd fs, d = some dd ∧ H dd = some (.xd fs) ∧ fs.map (·.1) = e.fs.map (·.1) ∧ RpAll K G (fs.map (·.2)) (e.fs.map (·.2)))
theorem ExR.mv {K : PySem.W.Frag} {G G' H H' : Hp} {cls : Value} {d : Option Addr} {e : Ex} (s : Sub G G') (hx : ∀ dd fs, H dd = some (.xd fs) → H' dd = some (.xd fs)) (h : ExR K G H cls d e) : ExR K G' H' cls d e := by
  obtain ⟨h1, h2⟩ := h
  refine ⟨h1, ?_⟩
  rcases h2 with h2 | ⟨dd, fs, h3, h4, h5, h6⟩
  · exact .inl h2
  · exact .inr ⟨dd, fs, h3, hx _ _ h4, h5, h6.mono s⟩
def SlotR (K : PySem.W.Frag) (O0 O : List Addr) (H : Hp) (v : V) : Sl → Prop
  | .d x => Rp K (hide O H) v x
  | .own xs => ∃ p vs, v = .ref p ∧ p ∈ O ∧ p ∉ O0 ∧ H p = some (.lst vs) ∧ xs.length ≤ sizeLine ∧ RpAll K (hide O H) vs xs
  | .dct ks => ∃ p ep xs, v = .ref p ∧ p ∈ O ∧ p ∉ O0 ∧ H p = some (dctO p ep xs) ∧ xs.map (·.1) = ks ∧ ∀ x ∈ xs, SqT K (hide O H) x.2 (x.1.map V.int)
  | .dk ks => ∃ p kvs, v = .ref p ∧ p ∈ O ∧ p ∉ O0 ∧ H p = some (.dK kvs) ∧ kvs.map (·.1) = ks.map (fun x => Sum.inl x.1) ∧ RpAll K (hide O H) (kvs.map (·.2)) (ks.map (·.2))
  | .exn a cls dd e => v = .ref a ∧ ExR K (hide O H) H cls dd e
theorem SlotR.hold {K : PySem.W.Frag} {O0 O : List Addr} {H : Hp} {v : V} {s : Sl} (hs : s.Hold) (h : SlotR K O0 O H v s) : ∃ p, v = .ref p ∧ p ∈ O ∧ p ∉ O0 := by
  cases s with
  | d x => exact hs.elim
  | own xs => obtain ⟨p, vs, rfl, m, n, _⟩ := h; exact ⟨p, rfl, m, n⟩
  | dct ks => obtain ⟨p, _, vs, rfl, m, n, _⟩ := h; exact ⟨p, rfl, m, n⟩
  | dk ks => obtain ⟨p, vs, rfl, m, n, _⟩ := h; exact ⟨p, rfl, m, n⟩
  | exn a c dd e => exact hs.elim
theorem SlotR.mv {K : PySem.W.Frag} {O0 O O' : List Addr} {H H' : Hp} {v : V} {s : Sl} (sub : Sub (hide O H) (hide O' H')) (hm : s.Hold → ∀ p, v = .ref p → p ∈ O → p ∉ O0 → p ∈ O' ∧ ∀ o, H p = some o → (∀ ps, o ≠ .tbl ps) → H' p = some o)
    (hx : ∀ dd fs, H dd = some (.xd fs) → H' dd = some (.xd fs)) (h : SlotR K O0 O H v s) : SlotR K O0 O' H' v s := by
  cases s with
  | d x => exact Rp.mono sub h
  | own xs =>
    obtain ⟨p, vs, rfl, m, n, hp, z, r⟩ := h
    obtain ⟨m', k⟩ := hm trivial p rfl m n
    exact ⟨p, vs, rfl, m', n, k _ hp (fun _ q => by cases q), z, r.mono sub⟩
  | dct ks =>
    obtain ⟨p, ep, xs, rfl, m, n, hp, z, r⟩ := h
    obtain ⟨m', k⟩ := hm trivial p rfl m n
    exact ⟨p, ep, xs, rfl, m', n, k _ hp (fun _ q => by cases q), z, fun x hx => sub.sqT (r x hx)⟩
  | dk ks =>
    obtain ⟨p, kvs, rfl, m, n, hp, z, r⟩ := h
    obtain ⟨m', k⟩ := hm trivial p rfl m n
    exact ⟨p, kvs, rfl, m', n, k _ hp (fun _ q => by cases q), z, r.mono sub⟩
  | exn a c dd e => exact ⟨h.1, h.2.mv sub hx⟩
structure St0 (K : PySem.W.Frag) (Tb : List Addr) (H0 : Hp) (O0 O : List Addr) (H : Hp) (σ : L2.St) (ρ : Rho) : Prop where
  ext : Ext H0 H
  sub : ∀ b ∈ O0, b ∈ O
  new : ∀ b ∈ O, b ∉ O0 → H0 b = none
  al : ∀ b ∈ O, H b ≠ none
  tab : ∀ P ∈ Tb, TabC H P
  pln : ∀ b ∈ O, b ∉ O0 → ∃ o, H b = some o ∧ Plain o
  len : σ.length = ρ.length
  slot : ∀ (i : Nat) (s : Sl), ρ[i]? = some (some s) → ∃ v, σ[i]? = some (some v) ∧ SlotR K O0 O H v s
  inj : ∀ (i j : Nat) (p : Addr) (s t : Sl), s.Hold → t.Hold → ρ[i]? = some (some s) → ρ[j]? = some (some t) → σ[i]? = some (some (.ref p)) → σ[j]? = some (some (.ref p)) → i = j
section
variable {K : PySem.W.Frag} {Tb : List Addr} {H0 H H' : Hp} {O0 O : List Addr} {σ : L2.St} {ρ : Rho}
theorem St0.step (s : St0 K Tb H0 O0 O H σ ρ) (e : Ext H H') : St0 K Tb H0 O0 O H' σ ρ where
  ext := s.ext.trans e
  sub := s.sub
  new := s.new
  al := fun b m => e.al b (s.al b m)
  tab := fun P m => e.tab P (s.tab P m)
  pln := fun b m n => by
    obtain ⟨o, h, q⟩ := s.pln b m n
    exact ⟨o, e.keep b o h q.2, q⟩
  len := s.len
  slot := fun i x h => by
    obtain ⟨v, h1, h2⟩ := s.slot i x h
    exact ⟨v, h1, h2.mv (Sub.hide e.keep) (fun _ p _ m _ => ⟨m, fun o h n => e.keep p o h n⟩) fun dd fs h => e.keep dd _ h fun _ q => by cases q⟩
  inj := s.inj
theorem St0.hold (s : St0 K Tb H0 O0 O H σ ρ) {i : Nat} {x : Sl} {p : Addr} (hx : x.Hold) (h : ρ[i]? = some (some x)) (hp : σ[i]? = some (some (.ref p))) : p ∈ O ∧ p ∉ O0 := by
  obtain ⟨v, h1, h2⟩ := s.slot i x h
  obtain ⟨q, rfl, m, n⟩ := h2.hold hx
  rw [hp] at h1
  cases h1
  exact ⟨m, n⟩
/-- a new address is none of the hidden -/
theorem St0.fresh (s : St0 K Tb H0 O0 O H σ ρ) {p : Addr} (h : H p = none) : p ∉ O := fun m => s.al p m h
end
abbrev WX := L2.WX
def AftX (K : PySem.W.Frag) (O : List Addr) (H : Hp) (e : Ex) (W : Value → Option Addr → Hp → Prop) : Prop := ∀ cls d H', Ext H H' → ExR K (hide O H') H' cls d e → W cls d H'
/-- what is wanted of a result -/
def Post (K : PySem.W.Frag) (O : List Addr) {α β : Type} (Rl : Hp → β → α → Prop) (W : Value → Option Addr → Hp → Prop) (H : Hp) (x : R α) (Q : β → Hp → Prop) : Prop := match x with
  | .ok a => ∀ b H', Ext H H' → Rl H' b a → Q b H'
  | .exc e => AftX K O H e W
  | .bad => False
abbrev RlD (K : PySem.W.Frag) (O : List Addr) : Hp → V → PyData → Prop := fun H v d => Rp K (hide O H) v d
abbrev RlL (K : PySem.W.Frag) (O : List Addr) : Hp → List V → List PyData → Prop := fun H v d => RpAll K (hide O H) v d
abbrev RlB : Hp → Bool → Bool → Prop := fun _ b c => b = c
section
variable {K : PySem.W.Frag} {O : List Addr} {α α' β β' : Type} {Rl : Hp → β → α → Prop} {Rl' : Hp → β' → α' → Prop} {W : Value → Option Addr → Hp → Prop} {H H1 : Hp}
theorem Post.step {x : R α} {Q : β → Hp → Prop} (h : Post K O Rl W H x Q) (e : Ext H H1) : Post K O Rl W H1 x Q := by
  cases x with
  | ok a => exact fun b H' e' r => h b H' (e.trans e') r
  | exc x => exact fun c d H' e' r => h c d H' (e.trans e') r
  | bad => exact h
theorem Post.then {x : R α} {f : α → R α'} {Q : β → Hp → Prop} {Q' : β' → Hp → Prop} (h : Post K O Rl' W H (x >>= f) Q') (k : ∀ a b H1, Ext H H1 → Rl H1 b a → Post K O Rl' W H1 (f a) Q' → Q b H1) : Post K O Rl W H x Q := by
  cases x with
  | ok a => exact fun b H' e r => k a b H' e r (Post.step (show Post K O Rl' W H (f a) Q' from h) e)
  | exc x => exact h
  | bad => exact h
theorem Post.mono {x : R α} {Q Q' : β → Hp → Prop} (h : Post K O Rl W H x Q) (k : ∀ b H1, Q b H1 → Q' b H1) : Post K O Rl W H x Q' := by
  cases x with
  | ok a => exact fun b H' e r => k _ _ (h b H' e r)
  | exc x => exact h
  | bad => exact h
end
section
variable (K : PySem.W.Frag) (Tb : List Addr) (W : WX)
def tD (f : Rho → R PyData) : TE := fun σ H Q => ∃ H0 O0 O ρ, St0 K Tb H0 O0 O H σ ρ ∧ Post K O (RlD K O) (fun c d H => W c d σ H) H (f ρ) Q
def tDs (f : Rho → R (List PyData)) : TA := fun σ H Q => ∃ H0 O0 O ρ, St0 K Tb H0 O0 O H σ ρ ∧ Post K O (RlL K O) (fun c d H => W c d σ H) H (f ρ) Q
def tDT (f : Rho → R Bool) : TT := fun σ H Q => ∃ H0 O0 O ρ, St0 K Tb H0 O0 O H σ ρ ∧ Post K O RlB (fun c d H => W c d σ H) H (f ρ) Q
end
theorem _root_.L2.PE.by {X : Cx} {e : Expr} {t t' : TE} (h : PE X e t) (i : ∀ σ H Q, t' σ H Q → t σ H Q) : PE X e t' := ⟨fun pins s σ H Q I q => h.run pins s σ H Q I (i σ H Q q)⟩
theorem _root_.L2.PT.by {X : Cx} {e : Expr} {t t' : TT} (h : PT X e t) (i : ∀ σ H Q, t' σ H Q → t σ H Q) : PT X e t' := ⟨fun pins s σ H Q I q => h.run pins s σ H Q I (i σ H Q q)⟩
theorem _root_.L2.PW.by {X : Cx} {e : Expr} {t t' : TT} (h : PW X e t) (i : ∀ σ H Q, t' σ H Q → t σ H Q) : PW X e t' := ⟨fun wh pins s σ H Q I q => h.run wh pins s σ H Q I (i σ H Q q)⟩
theorem _root_.L2.PA.by {X : Cx} {e : List Expr} {t t' : TA} (h : PA X e t) (i : ∀ σ H Q, t' σ H Q → t σ H Q) : PA X e t' := ⟨fun pos pins s σ H Q I q => h.run pos pins s σ H Q I (i σ H Q q)⟩
theorem _root_.L2.PS.by {X : Cx} {e : Stmt} {t t' : TS} (h : PS X e t) (i : ∀ D σ H, t' D σ H → t D σ H) : PS X e t' := ⟨fun pins s σ H D I q => h.run pins s σ H D I (i D σ H q)⟩
theorem _root_.L2.PSs.by {X : Cx} {e : List Stmt} {t t' : TS} (h : PSs X e t) (i : ∀ D σ H, t' D σ H → t D σ H) : PSs X e t' := ⟨fun pins s σ H D I q => h.run pins s σ H D I (i D σ H q)⟩
end PD
set_option Elab.async false
set_option linter.all false
set_option maxRecDepth 100000
set_option maxHeartbeats 1000000
namespace PD
open PySem PySem.Spec PyProof.Rows L2
def oAdd : PyData → PyData → R PyData
  | .int i, .int j => .ok (.int (i + j))
  | .tuple xs, .tuple ys => if xs.length + ys.length ≤ sizeLine then .ok (.tuple (xs ++ ys)) else .bad
  | .list xs, .list ys => if xs.length + ys.length ≤ sizeLine then .ok (.list (xs ++ ys)) else .bad
  | _, _ => .bad
def oSub : PyData → PyData → R PyData
  | .int i, .int j => .ok (.int (i - j))
  | _, _ => .bad
instance (i j : Int) : Decidable (CMul i j) := by unfold CMul; infer_instance
instance (i j : Int) : Decidable (CPow i j) := by unfold CPow; infer_instance
instance (i j : Int) : Decidable (CDivN i j) := by unfold CDivN; infer_instance
def oMul : PyData → PyData → R PyData
  | .int i, .int j => if CMul i j then .ok (.int (i * j)) else .bad
  | _, _ => .bad
def oDiv : PyData → PyData → R PyData
  | .int i, .int j => if CDivN i j then .ok (.int (i.fdiv j)) else .bad
  | _, _ => .bad
def oMod : PyData → PyData → R PyData
  | .int i, .int j => if j ≠ 0 then .ok (.int (i.fmod j)) else .bad
  | _, _ => .bad
def oPow : PyData → PyData → R PyData
  | .int i, .int j => if CPow i j then .ok (.int (i ^ j.toNat)) else .bad
  | _, _ => .bad
def shp (d : PyData) : Bool := SeqAt.shaped d
def oEq (d e : PyData) : R PyData := if shp d = true ∧ shp e = true then .ok (.bool (PyData.eqv d e)) else .bad
def oNe (d e : PyData) : R PyData := if shp d = true ∧ shp e = true then .ok (.bool (!PyData.eqv d e)) else .bad
def oLt : PyData → PyData → R PyData
  | .int i, .int j => .ok (.bool (decide (i < j)))
  | _, _ => .bad
def oLe : PyData → PyData → R PyData
  | .int i, .int j => .ok (.bool (decide (i ≤ j)))
  | _, _ => .bad
def oGt : PyData → PyData → R PyData
  | .int i, .int j => .ok (.bool (decide (j < i)))
  | _, _ => .bad
def oGe : PyData → PyData → R PyData
  | .int i, .int j => .ok (.bool (decide (j ≤ i)))
  | _, _ => .bad
def items : PyData → R (List PyData)
  | .list xs => .ok xs
  | .tuple xs => .ok xs
  | _ => .bad
def inD (d : PyData) (xs : List PyData) : Bool := xs.any fun z => PyData.eqv z d
def oIn (d e : PyData) : R PyData := if shp d = true ∧ shp e = true then (do let xs ← items e; .ok (.bool (inD d xs))) else .bad
def oNotIn (d e : PyData) : R PyData := if shp d = true ∧ shp e = true then (do let xs ← items e; .ok (.bool (!inD d xs))) else .bad
def isNone : PyData → Bool
  | .none => true
  | _ => false
def oIx : PyData → PyData → R PyData
  | .list xs, .int i => match atI xs i with | some d => .ok d | none => .bad
  | .tuple xs, .int i => match atI xs i with | some d => .ok d | none => .bad
  | _, _ => .bad
def cutD (xs : List PyData) (lo hi : Option Int) : List PyData := (xs.drop (HT.sIx xs.length 0 lo)).take (HT.sIx xs.length xs.length hi - HT.sIx xs.length 0 lo)
def oCut (d : PyData) (lo hi : Option Int) : R PyData := match d with
  | .list xs => .ok (.list (cutD xs lo hi))
  | .tuple xs => .ok (.tuple (cutD xs lo hi))
  | _ => .bad
theorem cutD_length (xs : List PyData) (lo hi : Option Int) : (cutD xs lo hi).length ≤ xs.length := by
  unfold cutD
  rw [List.length_take, List.length_drop]
  omega
abbrev Dn := Rho → R PyData
abbrev DnL := Rho → R (List PyData)
abbrev DnB := Rho → R Bool
def dVar (i : Nat) : Dn := fun ρ => match ρ[i]? with
  | some (some (.d x)) => .ok x
  | _ => .bad
def dC (x : PyData) : Dn := fun _ => .ok x
def dOne (u : PyData → R PyData) (f : Dn) : Dn := fun ρ => f ρ >>= u
def dTwo (u : PyData → PyData → R PyData) (f g : Dn) : Dn := fun ρ => f ρ >>= fun a => g ρ >>= fun b => u a b
def dNil : DnL := fun _ => .ok []
def dCons (f : Dn) (g : DnL) : DnL := fun ρ => f ρ >>= fun a => g ρ >>= fun b => .ok (a :: b)
def dTup (g : DnL) : Dn := fun ρ => g ρ >>= fun xs => if xs.length ≤ sizeLine then .ok (.tuple xs) else .bad
def dLst (g : DnL) : Dn := fun ρ => g ρ >>= fun xs => if xs.length ≤ sizeLine then .ok (.list xs) else .bad
def dArg (m : List PyData → R PyData) (g : DnL) : Dn := fun ρ => g ρ >>= m
def asB : PyData → R Bool
  | .bool b => .ok b
  | _ => .bad
def dAsB (f : Dn) : DnB := fun ρ => f ρ >>= asB
def dAnd (f g : DnB) : DnB := fun ρ => f ρ >>= fun b => if b = true then g ρ else .ok false
def dOr (f g : DnB) : DnB := fun ρ => f ρ >>= fun b => if b = true then .ok true else g ρ
def dNot (f : DnB) : DnB := fun ρ => f ρ >>= fun b => .ok (!b)
def dAndV (f g : Dn) : Dn := fun ρ => f ρ >>= fun a => asB a >>= fun b => if b = true then g ρ else .ok (.bool false)
def dOrV (f g : Dn) : Dn := fun ρ => f ρ >>= fun a => asB a >>= fun b => if b = true then .ok (.bool true) else g ρ
def dNotV (f : Dn) : Dn := fun ρ => f ρ >>= fun a => asB a >>= fun b => .ok (.bool (!b))
def dIf (c : DnB) (f g : Dn) : Dn := fun ρ => c ρ >>= fun b => if b = true then f ρ else g ρ
def asI : PyData → R Int
  | .int i => .ok i
  | _ => .bad
abbrev DnO := Rho → R (Option Int)
def dNoP : DnO := fun _ => .ok none
def dPart (f : Dn) : DnO := fun ρ => f ρ >>= fun a => asI a >>= fun i => .ok (some i)
def dCut (f : Dn) (lo hi : DnO) : Dn := fun ρ => f ρ >>= fun a => lo ρ >>= fun l => hi ρ >>= fun h => oCut a l h
section
variable {X : Cx} {Tb : List Addr} {W : WX} {K : PySem.W.Frag} {O : List Addr} {H : Hp} {σ : L2.St} {Wx : Value → Option Addr → Hp → Prop}
def Al (O : List Addr) (H : Hp) : Prop := ∀ b ∈ O, H b ≠ none
/-- a new tuple, a new list -/
theorem Post.newTup {xs : List V} {ds : List PyData} {Q : VK} (al : Al O H) (h : Post K O (RlD K O) Wx H (.ok (.tuple ds)) Q) (z : ds.length ≤ sizeLine) (r : RpAll K (hide O H) xs ds) : ∀ p, H p = none → Q (.ref p) (upd H p (.tup xs)) := fun p hp => by
  have n : p ∉ O := fun m => al p m hp
  refine h _ _ (Ext.new hp) (.tup (.of (by rw [hide_out n, upd_same])) z (r.mono (Sub.hide (Ext.new hp).keep)))
theorem Post.newLst {xs : List V} {ds : List PyData} {Q : VK} (al : Al O H) (h : Post K O (RlD K O) Wx H (.ok (.list ds)) Q) (z : ds.length ≤ sizeLine) (r : RpAll K (hide O H) xs ds) : ∀ p, H p = none → Q (.ref p) (upd H p (.lst xs)) := fun p hp => by
  have n : p ∉ O := fun m => al p m hp
  refine h _ _ (Ext.new hp) (.lst (.of (by rw [hide_out n, upd_same])) z (r.mono (Sub.hide (Ext.new hp).keep)))
theorem Post.here {d : PyData} {v : V} {Q : VK} (h : Post K O (RlD K O) Wx H (.ok d) Q) (r : Rp K (hide O H) v d) : Q v H := h v H (Ext.refl H) r
def Ok2 (K : PySem.W.Frag) (r : R2) (u : PyData → PyData → R PyData) : Prop := ∀ (O : List Addr) (H : Hp) (Wx : Value → Option Addr → Hp → Prop) (x y : V) (d e : PyData) (Q : VK), Al O H → Rp K (hide O H) x d → Rp K (hide O H) y e → Post K O (RlD K O) Wx H (u d e) Q → r x y H Q
def OkL (K : PySem.W.Frag) (r : List V → Hp → VK → Prop) (u : List PyData → R PyData) : Prop := ∀ (O : List Addr) (H : Hp) (Wx : Value → Option Addr → Hp → Prop) (vs : List V) (ds : List PyData) (Q : VK), Al O H → RpAll K (hide O H) vs ds → Post K O (RlD K O) Wx H (u ds) Q → r vs H Q
theorem tD_two {r : R2} {u : PyData → PyData → R PyData} {f g : Dn} {Q : VK} (hr : Ok2 K r u) (h : tD K Tb W (dTwo u f g) σ H Q) : tOp r (tD K Tb W f) (tD K Tb W g) σ H Q := by
  obtain ⟨H0, O0, O, ρ, st, h⟩ := h
  refine ⟨H0, O0, O, ρ, st, Post.then h fun d v H1 e r1 k => ?_⟩
  refine ⟨H0, O0, O, ρ, st.step e, Post.then k fun d2 v2 H2 e2 r2 k2 => ?_⟩
  exact hr O H2 _ v v2 d d2 Q ((st.step e).step e2).al (r1.mono (Sub.hide e2.keep)) r2 k2
theorem tD_arg {r : List V → Hp → VK → Prop} {u : List PyData → R PyData} {g : DnL} {Q : VK} (hr : OkL K r u) (h : tD K Tb W (dArg u g) σ H Q) : tCB r (tDs K Tb W g) σ H Q := by
  obtain ⟨H0, O0, O, ρ, st, h⟩ := h
  exact ⟨H0, O0, O, ρ, st, Post.then h fun d v H1 e r1 k => hr O H1 _ v d Q (st.step e).al r1 k⟩
theorem fd_var (i : Nat) {x : Str} {pos : Pos} (hN : X.N[i]? = some x := by rfl) (hv : Vis X.env.scope x := by first | exact Or.inl rfl | exact Or.inr (Or.inl rfl) | exact Or.inr (Or.inr rfl)) (hd : (x == ("__debug__" : Str)) = false := by decide)
    (hcd : (x == ("__classdict__" : Str)) = false := by decide) : PE X (.Name x pos) (tD X.K Tb W (dVar i)) := (pv i hN hv hd hcd).by fun σ H Q h => by
  obtain ⟨H0, O0, O, ρ, st, h⟩ := h
  unfold dVar at h
  split at h
  · rename_i x e
    obtain ⟨v, h1, h2⟩ := st.slot i _ e
    exact ⟨v, h1, Post.here h h2⟩
  · exact h.elim
theorem fd_int {i : Int} {j pos} : PE X (.Constant (.int i) j pos) (tD X.K Tb W (dC (.int i))) := pe_int.by fun σ H Q ⟨_, _, _, _, _, h⟩ => Post.here h (.int i)
theorem fd_bl {b : Bool} {j pos} : PE X (.Constant (.bool b) j pos) (tD X.K Tb W (dC (.bool b))) := pe_bl.by fun σ H Q ⟨_, _, _, _, _, h⟩ => Post.here h (.bl b)
theorem fd_non {j pos} : PE X (.Constant .none j pos) (tD X.K Tb W (dC .none)) := pe_non.by fun σ H Q ⟨_, _, _, _, _, h⟩ => Post.here h .non
theorem fa_nil : PA X [] (tDs X.K Tb W dNil) := pa_nil.by fun σ H Q ⟨_, _, _, _, _, h⟩ => h [] H (Ext.refl H) .nil
theorem fa_cons {e : Expr} {es : List Expr} {f : Dn} {g : DnL} (ha : PE X e (tD X.K Tb W f)) (hr : PA X es (tDs X.K Tb W g)) (hs : starEach (e :: es) X.env = (false, eval e X.env) :: starEach es X.env := by rfl) : PA X (e :: es) (tDs X.K Tb W (dCons f g)) :=
  (pa_cons ha hr hs).by fun σ H Q h => by
    obtain ⟨H0, O0, O, ρ, st, h⟩ := h
    refine ⟨H0, O0, O, ρ, st, Post.then h fun d v H1 e r1 k => ?_⟩
    refine ⟨H0, O0, O, ρ, st.step e, Post.then k fun d2 v2 H2 e2 r2 k2 => ?_⟩
    exact k2 _ H2 (Ext.refl _) (.cons (r1.mono (Sub.hide e2.keep)) r2)
theorem fd_tup {es : List Expr} {g : DnL} {x1} {pos : Pos} (h : PA X es (tDs X.K Tb W g)) : PE X (.Tuple es x1 pos) (tD X.K Tb W (dTup g)) := (pe_tup h).by fun σ H Q h => by
  obtain ⟨H0, O0, O, ρ, st, h⟩ := h
  refine ⟨H0, O0, O, ρ, st, Post.then h fun d v H1 e r1 k => ?_⟩
  split at k
  · rename_i z
    exact ⟨by rw [r1.length]; exact z, Post.newTup (st.step e).al k z r1⟩
  · exact k.elim
theorem fd_lst {es : List Expr} {g : DnL} {pos : Pos} (h : PA X es (tDs X.K Tb W g)) : PE X (.List es pos) (tD X.K Tb W (dLst g)) := (pe_lst h).by fun σ H Q h => by
  obtain ⟨H0, O0, O, ρ, st, h⟩ := h
  refine ⟨H0, O0, O, ρ, st, Post.then h fun d v H1 e r1 k => ?_⟩
  split at k
  · rename_i z
    exact ⟨by rw [r1.length]; exact z, Post.newLst (st.step e).al k z r1⟩
  · exact k.elim
def rCatS (K : PySem.W.Frag) : R2 := fun x y H Q => ∃ l b xs zs, x = .ref l ∧ y = .ref b ∧ SqL K H l xs ∧ SqL K H b zs ∧ xs.length + zs.length ≤ sizeLine ∧ ∀ p, H p = none → Q (.ref p) (upd H p (.lst (xs ++ zs)))
theorem op_catS : OpR X (binaryOp .Add) (rCatS X.K) := by
  intro pins s σ H x y v u Q I rx ry h
  obtain ⟨l, b, xs, zs, rfl, rfl, hH, hB, hz, q⟩ := h
  cases rx
  cases ry
  obtain ⟨its, r, ⟨⟨cls, dd, data, sl⟩, n, ho, hc, hdd, hd⟩, _⟩ := I.list hH
  obtain ⟨its2, r2, ⟨⟨cls2, dd2, data2, sl2⟩, n2, ho2, hc2, hdd2, hd2⟩, _⟩ := I.list hB
  simp only at hc hdd hd hc2 hdd2 hd2
  subst hc hdd hd hc2 hdd2 hd2
  have l1 := r.length
  have l2 := r2.length
  have e : its.toArray ++ its2.toArray = (its ++ its2).toArray := by simp
  refine concat_meets ⟨_, ho, rfl⟩ ⟨_, ho2, rfl⟩ noFill_list_add seq_list_add PySem.F.slot_list_add PySem.F.entry_list_add (PySem.F.args_list_add_2 _ _) (list_addW l b its.toArray its2.toArray n n2 none none sl sl2 (by rw [List.size_toArray, List.size_toArray]; omega)) ⟨ho, ho2, ?_⟩
  rw [e]
  exact ⟨.ref _, _, I.lnew (t' := s.toks) (r.append r2) (by rw [List.length_append]; omega), rfl, q _ I.fresh⟩
theorem opR_or {f : Value → Value → Sem Value} {r r' : R2} (h : OpR X f r) (h' : OpR X f r') : OpR X f (fun x y H Q => r x y H Q ∨ r' x y H Q) := by
  intro pins s σ H x y v u Q I rx ry q
  rcases q with q | q
  · exact h pins s σ H x y v u Q I rx ry q
  · exact h' pins s σ H x y v u Q I rx ry q
theorem ok_add : Ok2 K (fun x y H Q => rI0 (fun i j => .int (i + j)) x y H Q ∨ (rCatA K x y H Q ∨ rCatS K x y H Q)) oAdd := by
  intro O H Wx x y d e Q al hx hy h
  unfold oAdd at h
  split at h
  · cases hx; cases hy
    exact .inl ⟨_, _, rfl, rfl, Post.here h (.int _)⟩
  · split at h
    · rename_i z
      cases hx with
      | tup h1 z1 a1 =>
        cases hy with
        | tup h2 z2 a2 =>
          refine .inr (.inl ⟨_, _, _, _, rfl, rfl, Sub.unhide.sqT h1, Sub.unhide.sqT h2, by rw [a1.length, a2.length]; exact z, fun e0 => ?_, fun _ e0 => ?_, fun _ _ => ?_⟩)
          · subst e0
            cases a1
            exact Post.here h (.tup h2 z2 a2)
          · subst e0
            cases a2
            rw [List.append_nil] at h
            exact Post.here h (.tup h1 z1 a1)
          · exact Post.newTup al h (by rw [List.length_append]; exact z) (a1.append a2)
    · exact h.elim
  · split at h
    · rename_i z
      cases hx with
      | lst h1 z1 a1 =>
        cases hy with
        | lst h2 z2 a2 =>
          exact .inr (.inr ⟨_, _, _, _, rfl, rfl, Sub.unhide.sqL h1, Sub.unhide.sqL h2, by rw [a1.length, a2.length]; exact z, Post.newLst al h (by rw [List.length_append]; exact z) (a1.append a2)⟩)
    · exact h.elim
  · exact h.elim
theorem ok_sub : Ok2 K (rI0 fun i j => .int (i - j)) oSub := by
  intro O H Wx x y d e Q al hx hy h
  unfold oSub at h
  split at h
  · cases hx; cases hy
    exact ⟨_, _, rfl, rfl, Post.here h (.int _)⟩
  · exact h.elim
theorem ok_mul : Ok2 K (rI CMul fun i j => .int (i * j)) oMul := by
  intro O H Wx x y d e Q al hx hy h
  unfold oMul at h
  split at h
  · cases hx; cases hy
    split at h
    · exact ⟨_, _, rfl, rfl, by assumption, Post.here h (.int _)⟩
    · exact h.elim
  · exact h.elim
theorem ok_div : Ok2 K (rI CDivN fun i j => .int (i.fdiv j)) oDiv := by
  intro O H Wx x y d e Q al hx hy h
  unfold oDiv at h
  split at h
  · cases hx; cases hy
    split at h
    · exact ⟨_, _, rfl, rfl, by assumption, Post.here h (.int _)⟩
    · exact h.elim
  · exact h.elim
theorem ok_mod : Ok2 K (rI (fun _ j => j ≠ 0) fun i j => .int (i.fmod j)) oMod := by
  intro O H Wx x y d e Q al hx hy h
  unfold oMod at h
  split at h
  · cases hx; cases hy
    split at h
    · exact ⟨_, _, rfl, rfl, by assumption, Post.here h (.int _)⟩
    · exact h.elim
  · exact h.elim
theorem ok_pow : Ok2 K (rI CPow fun i j => .int (i ^ j.toNat)) oPow := by
  intro O H Wx x y d e Q al hx hy h
  unfold oPow at h
  split at h
  · cases hx; cases hy
    split at h
    · exact ⟨_, _, rfl, rfl, by assumption, Post.here h (.int _)⟩
    · exact h.elim
  · exact h.elim
variable {a b c : Expr} {f g : Dn} {pos : Pos}
theorem fd_add (ha : PE X a (tD X.K Tb W f)) (hb : PE X b (tD X.K Tb W g)) : PE X (.BinOp a .Add b pos) (tD X.K Tb W (dTwo oAdd f g)) := (pe_op (opR_or op_add (opR_or op_catA op_catS)) ha hb).by fun σ H Q h => tD_two ok_add h
theorem fd_sub (ha : PE X a (tD X.K Tb W f)) (hb : PE X b (tD X.K Tb W g)) : PE X (.BinOp a .Sub b pos) (tD X.K Tb W (dTwo oSub f g)) := (pe_op op_sub ha hb).by fun σ H Q h => tD_two ok_sub h
theorem fd_mul (ha : PE X a (tD X.K Tb W f)) (hb : PE X b (tD X.K Tb W g)) : PE X (.BinOp a .Mult b pos) (tD X.K Tb W (dTwo oMul f g)) := (pe_op op_mul ha hb).by fun σ H Q h => tD_two ok_mul h
theorem fd_div (ha : PE X a (tD X.K Tb W f)) (hb : PE X b (tD X.K Tb W g)) : PE X (.BinOp a .FloorDiv b pos) (tD X.K Tb W (dTwo oDiv f g)) := (pe_op op_fdivN ha hb).by fun σ H Q h => tD_two ok_div h
theorem fd_mod (ha : PE X a (tD X.K Tb W f)) (hb : PE X b (tD X.K Tb W g)) : PE X (.BinOp a .Mod b pos) (tD X.K Tb W (dTwo oMod f g)) := (pe_op op_modN ha hb).by fun σ H Q h => tD_two ok_mod h
theorem fd_pow (ha : PE X a (tD X.K Tb W f)) (hb : PE X b (tD X.K Tb W g)) : PE X (.BinOp a .Pow b pos) (tD X.K Tb W (dTwo oPow f g)) := (pe_op op_pow ha hb).by fun σ H Q h => tD_two ok_pow h
theorem ok_eq : Ok2 K (rEqD K) oEq := by
  intro O H Wx x y d e Q al hx hy h
  unfold oEq at h
  split at h
  · rename_i z
    exact ⟨d, e, (hx.mono Sub.unhide).dp (nod_of_lay (SeqAt.canLay_of_shaped z.1)), (hy.mono Sub.unhide).dp (nod_of_lay (SeqAt.canLay_of_shaped z.2)), z.1, z.2, Post.here h (.bl _)⟩
  · exact h.elim
theorem ok_ne : Ok2 K (rNeD K) oNe := by
  intro O H Wx x y d e Q al hx hy h
  unfold oNe at h
  split at h
  · rename_i z
    exact ⟨d, e, (hx.mono Sub.unhide).dp (nod_of_lay (SeqAt.canLay_of_shaped z.1)), (hy.mono Sub.unhide).dp (nod_of_lay (SeqAt.canLay_of_shaped z.2)), z.1, z.2, Post.here h (.bl _)⟩
  · exact h.elim
def rInS (K : PySem.W.Frag) (neg : Bool) : R2 := fun x y H Q => ∃ d e ds, Dp K H x d ∧ Dp K H y e ∧ items e = .ok ds ∧ SeqAt.shaped d = true ∧ SeqAt.shaped e = true ∧ Q (.bl (if neg then !inD d ds else inD d ds)) H
theorem op_inS (hu : X.A.units + 65 < cLine) : OpR X (compareOp .In) (rInS X.K false) := by
  intro pins s σ H x y v u Q I rx ry h
  obtain ⟨d, e, ds, hd, he, hi, sd, se, q⟩ := h
  obtain ⟨as, r1⟩ := Dp.reads I d x v hd rx
  obtain ⟨bs, r2⟩ := Dp.reads I e y u he ry
  unfold items at hi
  split at hi
  · cases hi
    exact SeqAt.in_list_reads r2 r1 (SeqAt.canLay_of_shaped se) (SeqAt.canLay_of_shaped sd) (room_in_shaped sd hu) ⟨.bl _, H, I, rfl, q⟩
  · cases hi
    exact SeqAt.in_tuple_reads r2 r1 (SeqAt.canLay_of_shaped se) (SeqAt.canLay_of_shaped sd) (room_in_shaped sd hu) ⟨.bl _, H, I, rfl, q⟩
  · cases hi
theorem op_notInS (hu : X.A.units + 65 < cLine) : OpR X (compareOp .NotIn) (rInS X.K true) := by
  intro pins s σ H x y v u Q I rx ry h
  obtain ⟨d, e, ds, hd, he, hi, sd, se, q⟩ := h
  obtain ⟨as, r1⟩ := Dp.reads I d x v hd rx
  obtain ⟨bs, r2⟩ := Dp.reads I e y u he ry
  unfold items at hi
  split at hi
  · cases hi
    exact SeqAt.notIn_list_reads r2 r1 (SeqAt.canLay_of_shaped se) (SeqAt.canLay_of_shaped sd) (room_in_shaped sd hu) ⟨.bl _, H, I, rfl, q⟩
  · cases hi
    exact SeqAt.notIn_tuple_reads r2 r1 (SeqAt.canLay_of_shaped se) (SeqAt.canLay_of_shaped sd) (room_in_shaped sd hu) ⟨.bl _, H, I, rfl, q⟩
  · cases hi
theorem ok_in : Ok2 K (rInS K false) oIn := by
  intro O H Wx x y d e Q al hx hy h
  unfold oIn at h
  split at h
  · rename_i z
    cases hi : items e with
    | ok ds =>
      rw [hi] at h
      exact ⟨d, e, ds, (hx.mono Sub.unhide).dp (nod_of_lay (SeqAt.canLay_of_shaped z.1)), (hy.mono Sub.unhide).dp (nod_of_lay (SeqAt.canLay_of_shaped z.2)), hi, z.1, z.2, Post.here h (.bl _)⟩
    | exc x => cases e <;> cases hi
    | bad => rw [hi] at h; exact h.elim
  · exact h.elim
theorem ok_notIn : Ok2 K (rInS K true) oNotIn := by
  intro O H Wx x y d e Q al hx hy h
  unfold oNotIn at h
  split at h
  · rename_i z
    cases hi : items e with
    | ok ds =>
      rw [hi] at h
      exact ⟨d, e, ds, (hx.mono Sub.unhide).dp (nod_of_lay (SeqAt.canLay_of_shaped z.1)), (hy.mono Sub.unhide).dp (nod_of_lay (SeqAt.canLay_of_shaped z.2)), hi, z.1, z.2, Post.here h (.bl _)⟩
    | exc x => cases e <;> cases hi
    | bad => rw [hi] at h; exact h.elim
  · exact h.elim
theorem ok_cmp {p : Int → Int → Bool} {u : PyData → PyData → R PyData} (hu : ∀ d e, (∃ i j, d = .int i ∧ e = .int j ∧ u d e = .ok (.bool (p i j))) ∨ u d e = .bad) : Ok2 K (rI0 fun i j => .bl (p i j)) u := by
  intro O H Wx x y d e Q al hx hy h
  rcases hu d e with ⟨i, j, rfl, rfl, q⟩ | q
  · rw [q] at h
    cases hx; cases hy
    exact ⟨_, _, rfl, rfl, Post.here h (.bl _)⟩
  · rw [q] at h
    exact h.elim
theorem ok_lt : Ok2 K (rI0 fun i j => .bl (decide (i < j))) oLt := ok_cmp fun d e => by unfold oLt; split; exact .inl ⟨_, _, rfl, rfl, rfl⟩; exact .inr rfl
theorem ok_le : Ok2 K (rI0 fun i j => .bl (decide (i ≤ j))) oLe := ok_cmp fun d e => by unfold oLe; split; exact .inl ⟨_, _, rfl, rfl, rfl⟩; exact .inr rfl
theorem ok_gt : Ok2 K (rI0 fun i j => .bl (decide (j < i))) oGt := ok_cmp (p := fun i j => decide (j < i)) fun d e => by unfold oGt; split; exact .inl ⟨_, _, rfl, rfl, rfl⟩; exact .inr rfl
theorem ok_ge : Ok2 K (rI0 fun i j => .bl (decide (j ≤ i))) oGe := ok_cmp (p := fun i j => decide (j ≤ i)) fun d e => by unfold oGe; split; exact .inl ⟨_, _, rfl, rfl, rfl⟩; exact .inr rfl
/-- a comparison, by its rule -/
theorem fd_cmp {op : CmpOp} {r : R2} {u : PyData → PyData → R PyData} (ho : OpR X (compareOp op) r) (hk : Ok2 X.K r u) (ha : PE X a (tD X.K Tb W f)) (hb : PE X b (tD X.K Tb W g)) (hm : behindInMarks op b = false) : PE X (.Compare a [op] [b] pos) (tD X.K Tb W (dTwo u f g)) :=
  (pe_cmpR ho ha hb hm).by fun σ H Q h => tD_two hk h
theorem Post.asB {x : R PyData} {Q : Bool → Hp → Prop} (h : Post K O RlB Wx H (x >>= asB) Q) : Post K O (RlD K O) Wx H x (fun v H1 => ∃ k, v = .bl k ∧ Q k H1) := by
  refine Post.then h fun d v H1 e r k => ?_
  unfold PD.asB at k
  split at k
  · cases r
    exact ⟨_, rfl, k _ H1 (Ext.refl _) rfl⟩
  · exact k.elim
theorem ft_cmp {op : CmpOp} {r : R2} {u : PyData → PyData → R PyData} (ho : OpR X (compareOp op) r) (hk : Ok2 X.K r u) (ha : PE X a (tD X.K Tb W f)) (hb : PE X b (tD X.K Tb W g)) (hm : behindInMarks op b = false) : PT X (.Compare a [op] [b] pos) (tDT X.K Tb W (dAsB (dTwo u f g))) :=
  (pt_cmpR ho ha hb hm).by fun σ H Q ⟨H0, O0, O, ρ, st, h⟩ => tD_two (Tb := Tb) (W := W) hk ⟨H0, O0, O, ρ, st, Post.asB h⟩
/-- a test by an expression whose value is a bool -/
theorem ft_val (ha : PE X a (tD X.K Tb W f)) (he : ∀ whole, isTrue a X.env whole = (do let v ← whole; standAt a.pos; holding [v] (truthy v)) := by intro _; rfl) : PT X a (tDT X.K Tb W (dAsB f)) :=
  (pt_val ha he).by fun σ H Q ⟨H0, O0, O, ρ, st, h⟩ => ⟨H0, O0, O, ρ, st, (Post.asB h).mono fun b H1 q => q⟩
variable {fb gb : DnB} {rest : List Expr}
theorem fw_and1 (ha : PT X a (tDT X.K Tb W fb)) : PW X (.BoolOp .And [a] pos) (tDT X.K Tb W fb) := pw_and1 ha
theorem fw_or1 (ha : PT X a (tDT X.K Tb W fb)) : PW X (.BoolOp .Or [a] pos) (tDT X.K Tb W fb) := pw_or1 ha
theorem fw_and (ha : PT X a (tDT X.K Tb W fb)) (hb : PW X (.BoolOp .And (b :: rest) pos) (tDT X.K Tb W gb)) : PW X (.BoolOp .And (a :: b :: rest) pos) (tDT X.K Tb W (dAnd fb gb)) :=
  (pw_and ha hb).by fun σ H Q ⟨H0, O0, O, ρ, st, h⟩ => ⟨H0, O0, O, ρ, st, by
    refine Post.then h fun d v H1 e r k => ?_
    cases (show v = d from r)
    cases d with
    | true => exact ⟨H0, O0, O, ρ, st.step e, k⟩
    | false => exact k _ H1 (Ext.refl _) rfl⟩
theorem fw_or (ha : PT X a (tDT X.K Tb W fb)) (hb : PW X (.BoolOp .Or (b :: rest) pos) (tDT X.K Tb W gb)) : PW X (.BoolOp .Or (a :: b :: rest) pos) (tDT X.K Tb W (dOr fb gb)) :=
  (pw_or ha hb).by fun σ H Q ⟨H0, O0, O, ρ, st, h⟩ => ⟨H0, O0, O, ρ, st, by
    refine Post.then h fun d v H1 e r k => ?_
    cases (show v = d from r)
    cases d with
    | false => exact ⟨H0, O0, O, ρ, st.step e, k⟩
    | true => exact k _ H1 (Ext.refl _) rfl⟩
theorem ft_not (ha : PT X a (tDT X.K Tb W fb)) : PT X (.UnaryOp .Not a pos) (tDT X.K Tb W (dNot fb)) := (pt_not ha).by fun σ H Q ⟨H0, O0, O, ρ, st, h⟩ => ⟨H0, O0, O, ρ, st, by
    refine Post.then h fun d v H1 e r k => ?_
    cases (show v = d from r)
    exact k _ H1 (Ext.refl _) rfl⟩
theorem fd_one {op} (h : PE X a (tD X.K Tb W f)) : PE X (.BoolOp op [a] pos) (tD X.K Tb W f) := pe_one h
theorem asB_of {d : PyData} {v : V} {α β : Type} {Rl : Hp → β → α → Prop} {k : Bool → R α} {Q : β → Hp → Prop} {G : Hp} (r : Rp K G v d) (h : Post K O Rl Wx H (asB d >>= k) Q) : ∃ b, v = .bl b ∧ Post K O Rl Wx H (k b) Q := by
  unfold asB at h
  split at h
  · cases r; exact ⟨_, rfl, h⟩
  · exact h.elim
theorem fd_and (ha : PE X a (tD X.K Tb W f)) (hb : PE X (.BoolOp .And (b :: rest) pos) (tD X.K Tb W g)) : PE X (.BoolOp .And (a :: b :: rest) pos) (tD X.K Tb W (dAndV f g)) :=
  (pe_and ha hb).by fun σ H Q ⟨H0, O0, O, ρ, st, h⟩ => ⟨H0, O0, O, ρ, st, by
    refine Post.then h fun d v H1 e r k => ?_
    obtain ⟨b, rfl, k⟩ := asB_of r k
    refine ⟨b, rfl, ?_⟩
    cases b with
    | true => exact ⟨H0, O0, O, ρ, st.step e, k⟩
    | false => exact Post.here k (.bl _)⟩
theorem fd_not (ha : PE X a (tD X.K Tb W f)) : PE X (.UnaryOp .Not a pos) (tD X.K Tb W (dNotV f)) := (pe_not ha).by fun σ H Q ⟨H0, O0, O, ρ, st, h⟩ => ⟨H0, O0, O, ρ, st, by
    refine Post.then h fun d v H1 e r k => ?_
    obtain ⟨b, rfl, k⟩ := asB_of r k
    exact ⟨b, rfl, Post.here k (.bl _)⟩⟩
theorem fd_if (hc : PT X c (tDT X.K Tb W fb)) (ha : PE X a (tD X.K Tb W f)) (hb : PE X b (tD X.K Tb W g)) : PE X (.IfExp c a b pos) (tD X.K Tb W (dIf fb f g)) := (pe_ifExp hc ha hb).by fun σ H Q ⟨H0, O0, O, ρ, st, h⟩ => ⟨H0, O0, O, ρ, st, by
    refine Post.then h fun d v H1 e r k => ?_
    cases (show v = d from r)
    cases d with
    | true => exact ⟨H0, O0, O, ρ, st.step e, k⟩
    | false => exact ⟨H0, O0, O, ρ, st.step e, k⟩⟩
theorem atI_rp {G : Hp} {vs : List V} {ds : List PyData} {i : Int} {d : PyData} (r : RpAll K G vs ds) (h : atI ds i = some d) : ∃ v, atI vs i = some v ∧ Rp K G v d := by
  unfold atI at h ⊢
  rw [r.length]
  cases e : ixN ds.length i with
  | none => rw [e] at h; cases h
  | some j =>
    rw [e] at h
    exact r.get' h
theorem ok_ix : Ok2 K (rIx K) oIx := by
  intro O H Wx x y d e Q al hx hy h
  unfold oIx at h
  split at h
  · cases hy
    cases hx with
    | lst h1 z1 a1 =>
      split at h
      · rename_i e
        obtain ⟨v, h2, h3⟩ := atI_rp a1 e
        exact .inl ⟨_, _, _, v, rfl, rfl, Sub.unhide.sqL h1, h2, Post.here h h3⟩
      · exact h.elim
  · cases hy
    cases hx with
    | tup h1 z1 a1 =>
      split at h
      · rename_i e
        obtain ⟨v, h2, h3⟩ := atI_rp a1 e
        exact .inr (.inl ⟨_, _, _, v, rfl, rfl, Sub.unhide.sqT h1, h2, Post.here h h3⟩)
      · exact h.elim
  · exact h.elim
theorem fd_ix (ha : PE X a (tD X.K Tb W f)) (hb : PE X b (tD X.K Tb W g)) (hs : PlainIx b) : PE X (.Subscript a b pos) (tD X.K Tb W (dTwo oIx f g)) := (pe_ix ix_seq ha hb hs).by fun σ H Q h => tD_two ok_ix h
def tDO (K : PySem.W.Frag) (Tb : List Addr) (W : WX) (f : DnO) : TO := fun σ H Q => ∃ H0 O0 O ρ, St0 K Tb H0 O0 O H σ ρ ∧ Post K O (fun _ (x : Option Int) y => x = y) (fun c d H => W c d σ H) H (f ρ) Q
theorem _root_.L2.PO.by {X : Cx} {e : Option Expr} {t t' : TO} (h : PO X e t) (i : ∀ σ H Q, t' σ H Q → t σ H Q) : PO X e t' := ⟨fun pins s σ H Q I q => h.run pins s σ H Q I (i σ H Q q)⟩
theorem fo_none : PO X none (tDO X.K Tb W dNoP) := PO.by po_none fun σ H Q ⟨_, _, _, _, _, h⟩ => h none H (Ext.refl _) rfl
theorem asI_of {d : PyData} {v : V} {α β : Type} {Rl : Hp → β → α → Prop} {k : Int → R α} {Q : β → Hp → Prop} {G : Hp} (r : Rp K G v d) (h : Post K O Rl Wx H (asI d >>= k) Q) : ∃ b, v = .int b ∧ Post K O Rl Wx H (k b) Q := by
  unfold asI at h
  split at h
  · cases r; exact ⟨_, rfl, h⟩
  · exact h.elim
theorem fo_some (ha : PE X a (tD X.K Tb W f)) : PO X (some a) (tDO X.K Tb W (dPart f)) := PO.by (po_some ha) fun σ H Q ⟨H0, O0, O, ρ, st, h⟩ => ⟨H0, O0, O, ρ, st, by
    refine Post.then h fun d v H1 e r k => ?_
    obtain ⟨b, rfl, k⟩ := asI_of r k
    exact ⟨b, rfl, k _ H1 (Ext.refl _) rfl⟩⟩
theorem cut_rp {G : Hp} {vs : List V} {ds : List PyData} (lo hi : Option Int) (r : RpAll K G vs ds) : RpAll K G (cutV vs lo hi) (cutD ds lo hi) := by
  unfold cutV cutD
  rw [r.length]
  exact (r.drop _).take _
theorem fd_cut {lo hi : Option Expr} {fl fh : DnO} {p2 : Pos} (ha : PE X a (tD X.K Tb W f)) (hl : PO X lo (tDO X.K Tb W fl)) (hh : PO X hi (tDO X.K Tb W fh)) : PE X (.Subscript a (.Slice lo hi none p2) pos) (tD X.K Tb W (dCut f fl fh)) :=
  (pe_slice (SlR.or sl_list sl_tupA) ha hl hh).by fun σ H Q ⟨H0, O0, O, ρ, st, h⟩ => ⟨H0, O0, O, ρ, st, by
    refine Post.then h fun d v H1 e r k => ?_
    refine ⟨H0, O0, O, ρ, st.step e, Post.then k fun l l' H2 e2 r2 k2 => ?_⟩
    cases (show l' = l from r2)
    refine ⟨H0, O0, O, ρ, (st.step e).step e2, Post.then k2 fun u u' H3 e3 r3 k3 => ?_⟩
    cases (show u' = u from r3)
    have r' := r.mono (Sub.hide (e2.trans e3).keep)
    have al := (((st.step e).step e2).step e3).al
    unfold oCut at k3
    split at k3
    · cases r' with
      | lst h1 z1 a1 => exact .inl ⟨_, _, rfl, Sub.unhide.sqL h1, Post.newLst al k3 (Nat.le_trans (cutD_length _ _ _) z1) (cut_rp _ _ a1)⟩
    · cases r' with
      | tup h1 z1 a1 =>
        refine .inr ⟨_, _, rfl, Sub.unhide.sqT h1, fun hw => ?_, fun _ => Post.newTup al k3 (Nat.le_trans (cutD_length _ _ _) z1) (cut_rp _ _ a1)⟩
        refine Post.here k3 ?_
        rw [a1.length] at hw
        unfold cutD
        rw [hw.1, hw.2, List.drop_zero, Nat.sub_zero, List.take_length]
        exact .tup h1 z1 a1
    · exact k3.elim⟩
end
end PD
set_option Elab.async false
set_option linter.all false
set_option maxRecDepth 100000
set_option maxHeartbeats 1000000
namespace PD
open PySem PySem.Spec PyProof.Rows L2
def bLen : List PyData → R PyData
  | [d] => (items d) >>= fun xs => .ok (.int xs.length)
  | _ => .bad
def bInt : List PyData → R PyData
  | [.int i] => .ok (.int i)
  | [.bool b] => .ok (.int (if b then 1 else 0))
  | _ => .bad
def bAbs : List PyData → R PyData
  | [.int i] => .ok (.int (if i < 0 then -i else i))
  | _ => .bad
def bTuple : List PyData → R PyData
  | [d] => (items d) >>= fun xs => .ok (.tuple xs)
  | _ => .bad
def bList : List PyData → R PyData
  | [d] => (items d) >>= fun xs => .ok (.list xs)
  | _ => .bad
def asInts : List PyData → Option (List Int)
  | [] => some []
  | .int i :: r => (asInts r).map fun k => i :: k
  | _ :: _ => none
def asBools : List PyData → Option (List Bool)
  | [] => some []
  | .bool i :: r => (asBools r).map fun k => i :: k
  | _ :: _ => none
def ofO {α : Type} (x : Option α) (f : α → R PyData) : R PyData := match x with
  | some a => f a
  | none => .bad
def bSum : List PyData → R PyData
  | [.list xs] => ofO (asInts xs) fun ns => .ok (.int ns.sum)
  | _ => .bad
def maxI : List Int → Int
  | [] => 0
  | [x] => x
  | x :: r => max x (maxI r)
def bMax : List PyData → R PyData
  | [.list xs] => ofO (asInts xs) fun ns => if 0 < ns.length then .ok (.int (maxI ns)) else .bad
  | _ => .bad
def bMin2 : List PyData → R PyData
  | [.int i, .int j] => .ok (.int (if j < i then j else i))
  | _ => .bad
def bAny : List PyData → R PyData
  | [.list xs] => ofO (asBools xs) fun ns => .ok (.bool (ns.any id))
  | _ => .bad
def bAll : List PyData → R PyData
  | [.list xs] => ofO (asBools xs) fun ns => .ok (.bool (ns.all id))
  | _ => .bad
/-- isinstance(x, T) of data: T one of int, bool, tuple, list, str -/
def isiD (T : String) : PyData → Option Bool
  | .none => kitB "NoneType" T
  | .bool _ => kitB "bool" T
  | .int _ => kitB "int" T
  | .str _ => kitB "str" T
  | .list _ => kitB "list" T
  | .tuple _ => kitB "tuple" T
  | .dict _ => none
def oIsi (T : String) (d : PyData) : R PyData := match isiD T d with
  | some b => .ok (.bool b)
  | none => .bad
theorem maxI_mem : ∀ {ns : List Int}, 0 < ns.length → maxI ns ∈ ns
  | [], h => by simp at h
  | [x], _ => by simp [maxI]
  | x :: y :: r, _ => by
    have ih := maxI_mem (ns := y :: r) (by simp)
    show max x (maxI (y :: r)) ∈ x :: y :: r
    rcases Int.le_total x (maxI (y :: r)) with h | h
    · rw [Int.max_eq_right h]; exact List.mem_cons_of_mem _ ih
    · rw [Int.max_eq_left h]; exact List.mem_cons_self
theorem le_maxI : ∀ {ns : List Int} {y : Int}, y ∈ ns → y ≤ maxI ns
  | [], _, h => by simp at h
  | [x], y, h => by simp at h; subst h; simp [maxI]
  | x :: z :: r, y, h => by
    show y ≤ max x (maxI (z :: r))
    rcases List.mem_cons.mp h with rfl | h
    · exact Int.le_max_left _ _
    · exact Int.le_trans (le_maxI h) (Int.le_max_right _ _)
section
variable {X : Cx} {Tb : List Addr} {W : WX} {K : PySem.W.Frag} {O : List Addr} {H : Hp} {σ : L2.St} {Wx : Value → Option Addr → Hp → Prop}
theorem ints_rp {G : Hp} : ∀ {vs : List V} {ds : List PyData} {ns : List Int}, RpAll K G vs ds → asInts ds = some ns → vs = ns.map V.int
  | _, _, _, .nil, h => by cases h; rfl
  | _, _, _, .cons (d := d) (ds := ds) r t, h => by
    cases r with
    | int i =>
      obtain ⟨k, e, rfl⟩ := Option.map_eq_some_iff.mp h
      rw [ints_rp t e]; rfl
    | _ => cases h
theorem bools_rp {G : Hp} : ∀ {vs : List V} {ds : List PyData} {ns : List Bool}, RpAll K G vs ds → asBools ds = some ns → vs = ns.map V.bl
  | _, _, _, .nil, h => by cases h; rfl
  | _, _, _, .cons (d := d) (ds := ds) r t, h => by
    cases r with
    | bl i =>
      obtain ⟨k, e, rfl⟩ := Option.map_eq_some_iff.mp h
      rw [bools_rp t e]; rfl
    | _ => cases h
theorem ofO_post {α : Type} {x : Option α} {f : α → R PyData} {Q : VK} (h : Post K O (RlD K O) Wx H (ofO x f) Q) : ∃ a, x = some a ∧ Post K O (RlD K O) Wx H (f a) Q := by
  cases x with
  | some a => exact ⟨a, rfl, h⟩
  | none => exact h.elim
theorem ok_len : OkL K (fun xs H Q => ∃ p ys, xs = [.ref p] ∧ (SqL K H p ys ∨ SqT K H p ys) ∧ Q (.int ys.length) H) bLen := by
  intro O H Wx vs ds Q al r h
  unfold bLen at h
  split at h
  · cases r with
    | cons r1 r2 =>
      cases r2
      unfold items at h
      split at h
      · cases r1 with
        | lst h1 z1 a1 => exact ⟨_, _, rfl, .inl (Sub.unhide.sqL h1), by rw [a1.length]; exact Post.here h (.int _)⟩
      · cases r1 with
        | tup h1 z1 a1 => exact ⟨_, _, rfl, .inr (Sub.unhide.sqT h1), by rw [a1.length]; exact Post.here h (.int _)⟩
      · exact h.elim
  · exact h.elim
theorem ok_int : OkL K (fun xs H Q => (∃ i, xs = [.int i] ∧ Q (.int i) H) ∨ ∃ k, xs = [.bl k] ∧ Q (.int (if k then 1 else 0)) H) bInt := by
  intro O H Wx vs ds Q al r h
  unfold bInt at h
  split at h
  · cases r with
    | cons r1 r2 => cases r2; cases r1; exact .inl ⟨_, rfl, Post.here h (.int _)⟩
  · cases r with
    | cons r1 r2 => cases r2; cases r1; exact .inr ⟨_, rfl, Post.here h (.int _)⟩
  · exact h.elim
theorem ok_abs : OkL K (fun xs H Q => ∃ i, xs = [.int i] ∧ Q (.int (if i < 0 then -i else i)) H) bAbs := by
  intro O H Wx vs ds Q al r h
  unfold bAbs at h
  split at h
  · cases r with
    | cons r1 r2 => cases r2; cases r1; exact ⟨_, rfl, Post.here h (.int _)⟩
  · exact h.elim
theorem ok_tuple : OkL K (fun xs H Q => ∃ p ys, xs = [.ref p] ∧ ((SqL K H p ys ∧ ∀ l, H l = none → Q (.ref l) (upd H l (.tup ys))) ∨ (SqT K H p ys ∧ Q (.ref p) H))) bTuple := by
  intro O H Wx vs ds Q al r h
  unfold bTuple at h
  split at h
  · cases r with
    | cons r1 r2 =>
      cases r2
      unfold items at h
      split at h
      · cases r1 with
        | lst h1 z1 a1 => exact ⟨_, _, rfl, .inl ⟨Sub.unhide.sqL h1, Post.newTup al h z1 a1⟩⟩
      · cases r1 with
        | tup h1 z1 a1 => exact ⟨_, _, rfl, .inr ⟨Sub.unhide.sqT h1, Post.here h (.tup h1 z1 a1)⟩⟩
      · exact h.elim
  · exact h.elim
/-- of a list of ints -/
theorem ok_ints {g : List Int → R PyData} {u : List PyData → R PyData} {r : List V → Hp → VK → Prop} (hu : ∀ ds, (∃ xs, ds = [.list xs] ∧ u ds = ofO (asInts xs) g) ∨ u ds = .bad)
    (k : ∀ (O : List Addr) (H : Hp) (Wx : Value → Option Addr → Hp → Prop) (a : Addr) (ns : List Int) (Q : VK), Al O H → SqL K H a (ns.map V.int) → Post K O (RlD K O) Wx H (g ns) Q → r [.ref a] H Q) : OkL K r u := by
  intro O H Wx vs ds Q al rp h
  rcases hu ds with ⟨xs, rfl, e⟩ | e
  · rw [e] at h
    obtain ⟨ns, en, h⟩ := ofO_post h
    cases rp with
    | cons r1 r2 =>
      cases r2
      cases r1 with
      | lst h1 z1 a1 =>
        have q := ints_rp a1 en
        subst q
        exact k O H Wx _ ns Q al (Sub.unhide.sqL h1) h
  · rw [e] at h
    exact h.elim
theorem ok_bools {g : List Bool → R PyData} {u : List PyData → R PyData} {r : List V → Hp → VK → Prop} (hu : ∀ ds, (∃ xs, ds = [.list xs] ∧ u ds = ofO (asBools xs) g) ∨ u ds = .bad)
    (k : ∀ (O : List Addr) (H : Hp) (Wx : Value → Option Addr → Hp → Prop) (a : Addr) (ns : List Bool) (Q : VK), Al O H → SqL K H a (ns.map V.bl) → Post K O (RlD K O) Wx H (g ns) Q → r [.ref a] H Q) : OkL K r u := by
  intro O H Wx vs ds Q al rp h
  rcases hu ds with ⟨xs, rfl, e⟩ | e
  · rw [e] at h
    obtain ⟨ns, en, h⟩ := ofO_post h
    cases rp with
    | cons r1 r2 =>
      cases r2
      cases r1 with
      | lst h1 z1 a1 =>
        have q := bools_rp a1 en
        subst q
        exact k O H Wx _ ns Q al (Sub.unhide.sqL h1) h
  · rw [e] at h
    exact h.elim
theorem ok_max : OkL K (rMax K) bMax := ok_ints (fun ds => by unfold bMax; split; exact .inl ⟨_, rfl, rfl⟩; exact .inr rfl) fun O H Wx a ns Q al s h => by
  by_cases hn : 0 < ns.length
  · rw [if_pos hn] at h
    refine ⟨a, ns, rfl, s, hn, fun m h1 h2 => ?_⟩
    have e : m = maxI ns := Int.le_antisymm (le_maxI h1) (h2 _ (maxI_mem hn))
    rw [e]
    exact Post.here h (.int _)
  · rw [if_neg hn] at h
    exact h.elim
theorem ok_any : OkL K (rAny K) bAny := ok_bools (fun ds => by unfold bAny; split; exact .inl ⟨_, rfl, rfl⟩; exact .inr rfl) fun O H Wx a ns Q al s h => ⟨a, ns, rfl, s, Post.here h (.bl _)⟩
theorem ok_all : OkL K (rAll K) bAll := ok_bools (fun ds => by unfold bAll; split; exact .inl ⟨_, rfl, rfl⟩; exact .inr rfl) fun O H Wx a ns Q al s h => ⟨a, ns, rfl, s, Post.here h (.bl _)⟩
theorem ok_min2 : OkL K (fun xs H Q => ∃ i j, xs = [.int i, .int j] ∧ Q (.int (if j < i then j else i)) H) bMin2 := by
  intro O H Wx vs ds Q al r h
  unfold bMin2 at h
  split at h
  · cases r with
    | cons r1 r2 => cases r2 with
      | cons r2 r3 => cases r3; cases r1; cases r2; exact ⟨_, _, rfl, Post.here h (.int _)⟩
  · exact h.elim
variable {x : Str} {p pos : Pos} {e : Expr} {es : List Expr} {g : DnL} {id T : String} {r : List V → Hp → VK → Prop} {u : List PyData → R PyData}
theorem fd_callB (hc : CallR X (.builtin id) r) (hk : OkL X.K r u) (hg : Gl X x) (hm : X.mg x = none) (hv : bootBuiltins x = some (.builtin id)) (ha : PA X (e :: es) (tDs X.K Tb W g)) (hn : x ≠ "__name__" := by decide) (hdb : (x == ("__debug__" : Str)) = false := by decide)
    (he : starEach (e :: es) X.env = (false, eval e X.env) :: starEach es X.env := by rfl) (hpl : (backTo pos (starEach es X.env)).any (·.1) = false := by rfl) : PE X (.Call (.Name x p) (e :: es) [] pos) (tD X.K Tb W (dArg u g)) :=
  (pe_callB hc hg hm hv ha hn hdb he hpl).by fun σ H Q h => tD_arg hk h
theorem fd_callTy (hc : CallR X (.type T) r) (hk : OkL X.K r u) (hg : Gl X x) (hm : X.mg x = none) (hv : bootBuiltins x = some (.type T)) (ha : PA X (e :: es) (tDs X.K Tb W g)) (hn : x ≠ "__name__" := by decide) (hdb : (x == ("__debug__" : Str)) = false := by decide)
    (he : starEach (e :: es) X.env = (false, eval e X.env) :: starEach es X.env := by rfl) (hpl : (backTo pos (starEach es X.env)).any (·.1) = false := by rfl) : PE X (.Call (.Name x p) (e :: es) [] pos) (tD X.K Tb W (dArg u g)) :=
  (pe_callTy hc hg hm hv ha hn hdb he hpl).by fun σ H Q h => tD_arg hk h
theorem tyX_rp {G : Hp} {v : V} {d : PyData} {T : String} {b : Bool} (r : Rp K H v d) (h : isiD T d = some b) : ∃ t, TyX K H v (.type t) ∧ PySem.W.kitOne K (.type t) (.type T) = some b := by
  unfold isiD at h
  cases r with
  | non => exact ⟨_, .base .non, kit_ty h⟩
  | bl b => exact ⟨_, .base (.bl b), kit_ty h⟩
  | int b => exact ⟨_, .base (.int b), kit_ty h⟩
  | str b => exact ⟨_, .base (.str b), kit_ty h⟩
  | lst h1 z a =>
    rcases h1 with (h1 | ⟨o, h1⟩) | ⟨o, its, n, h1, h2, _⟩
    · exact ⟨_, .base (.lst h1), kit_ty h⟩
    · exact ⟨_, .base (.frz h1), kit_ty h⟩
    · exact ⟨_, .kList h1 h2, kit_ty h⟩
  | tup h1 z a =>
    rcases h1 with (h1 | ⟨o, h1⟩) | ⟨o, its, n, h1, h2, _⟩
    · exact ⟨_, .base (.tup h1), kit_ty h⟩
    · exact ⟨_, .fTuple h1, kit_ty h⟩
    · exact ⟨_, .kTuple h1 h2, kit_ty h⟩
  | dct _ _ => cases h
  | dk _ _ _ => cases h
  | ins _ _ _ => cases h
/-- isinstance(x, T) -/
theorem fd_isi {f : Dn} {a : Expr} {y : Str} {py : Pos} (ha : PE X a (tD X.K Tb W f)) (hg : Gl X "isinstance") (hm : X.mg "isinstance" = none) (hgy : Gl X y) (hmy : X.mg y = none) (hvy : bootBuiltins y = some (.type T)) (hny : y ≠ "__name__" := by decide) (hdy : (y == ("__debug__" : Str)) = false := by decide)
    (he : starEach [a, .Name y py] X.env = (false, eval a X.env) :: starEach [.Name y py] X.env := by rfl) (he2 : starEach [.Name y py] X.env = (false, eval (.Name y py) X.env) :: starEach [] X.env := by rfl) (hpl : (backTo pos (starEach [.Name y py] X.env)).any (·.1) = false := by rfl) :
    PE X (.Call (.Name "isinstance" p) [a, .Name y py] [] pos) (tD X.K Tb W (dOne (oIsi T) f)) :=
  (pe_callB call_isi hg hm boot_isinstance (pa_cons ha (pa_cons (pe_bltn (v := .ty T) hgy hmy hvy rfl hny hdy) pa_nil he2) he) (by decide) (by decide) he hpl).by fun σ H Q ⟨H0, O0, O, ρ, st, h⟩ => ⟨H0, O0, O, ρ, st, by
    refine Post.then h fun d v H1 e r k => ?_
    unfold oIsi at k
    split at k
    · rename_i b hb
      obtain ⟨t, h1, h2⟩ := tyX_rp (G := H1) (r.mono Sub.unhide) hb
      exact ⟨v, .ty T, .type t, .type T, b, rfl, .ty T, h1, h2, Post.here k (.bl b)⟩
    · exact k.elim⟩
end
end PD
set_option Elab.async false
set_option linter.all false
set_option maxRecDepth 100000
set_option maxHeartbeats 1000000
namespace PD
open PySem PySem.Spec PyProof.Rows L2
structure ItD (K : PySem.W.Frag) (G : Hp) (J : It) (ds : List PyData) : Prop where
  len : ds.length ≤ sizeLine
  go : ∀ i H', Ext G H' → i < ds.length → J.go i H'
  yld : ∀ i H' (O' : List Addr) x H'', Ext G H' → (∀ b ∈ O', G b = none) → Al O' H' → i < ds.length → J.yld i H' x H'' → Ext H' H'' ∧ ∃ d, ds[i]? = some d ∧ Rp K (hide O' H'') x d
  stop : ∀ H', Ext G H' → J.stop ds.length H'
def tI (K : PySem.W.Frag) (Tb : List Addr) (W : WX) (f : DnL) : TI := fun σ H R => ∃ H0 O0 O ρ, St0 K Tb H0 O0 O H σ ρ ∧ Post K O (fun H' J ds => ItD K (hide O H') J ds) (fun c d H => W c d σ H) H (f ρ) R
theorem _root_.L2.PI.by {X : Cx} {tg iter : Expr} {t t' : TI} (h : PI X tg iter t) (i : ∀ σ H Q, t' σ H Q → t σ H Q) : PI X tg iter t' := ⟨fun pins s σ H Q I q => h.run pins s σ H Q I (i σ H Q q)⟩
section
variable {K : PySem.W.Frag} {G H H' H'' : Hp} {O O' : List Addr} {a : Addr} {ds : List PyData} {xs : List V}
theorem Ext.under (e : Ext G H') (n : ∀ b ∈ O', G b = none) : Sub G (hide O' H') := fun b o h h2 => by
  have hb : b ∉ O' := fun m => by rw [n b m] at h; cases h
  rw [hide_out hb]
  exact e.keep b o h h2
theorem itd_list (h : SqL K G a xs) (z : ds.length ≤ sizeLine) (r : RpAll K G xs ds) : ItD K G (Itl K a) ds where
  len := z
  go := fun i H' e hi => by
    have hx : i < xs.length := by rw [r.length]; exact hi
    exact ⟨xs, xs[i], (Sub.ext e).sqL h, List.getElem?_eq_getElem hx⟩
  yld := fun i H' O' x H'' e n al hi y => by
    obtain ⟨rfl, y⟩ := y
    have q := y xs ((Sub.ext e).sqL h)
    obtain ⟨d, h1, h2⟩ := r.get q
    exact ⟨Ext.refl _, d, h1, h2.mono (e.under n)⟩
  stop := fun H' e => ⟨xs, (Sub.ext e).sqL h, by rw [r.length]; exact Nat.le_refl _⟩
theorem itd_tup (h : SqT K G a xs) (z : ds.length ≤ sizeLine) (r : RpAll K G xs ds) : ItD K G (Itt K a) ds where
  len := z
  go := fun i H' e hi => by
    have hx : i < xs.length := by rw [r.length]; exact hi
    exact ⟨xs, xs[i], (Sub.ext e).sqT h, List.getElem?_eq_getElem hx⟩
  yld := fun i H' O' x H'' e n al hi y => by
    obtain ⟨rfl, y⟩ := y
    have q := y xs ((Sub.ext e).sqT h)
    obtain ⟨d, h1, h2⟩ := r.get q
    exact ⟨Ext.refl _, d, h1, h2.mono (e.under n)⟩
  stop := fun H' e => ⟨xs, (Sub.ext e).sqT h, by rw [r.length]; exact Nat.le_refl _⟩
/-- lo, lo + 1, .. -/
def rngD (lo : Int) (n : Nat) : List PyData := (List.range n).map fun i => .int (lo + (i : Nat))
theorem itd_rng {lo : Int} {n : Nat} (z : n ≤ sizeLine) : ItD K G (Itr lo n) (rngD lo n) where
  len := by unfold rngD; rw [List.length_map, List.length_range]; exact z
  go := fun i H' e hi => by
    unfold rngD at hi; rw [List.length_map, List.length_range] at hi; exact hi
  yld := fun i H' O' x H'' e n' al hi y => by
    obtain ⟨rfl, rfl⟩ := y
    unfold rngD at hi ⊢
    rw [List.length_map, List.length_range] at hi
    exact ⟨Ext.refl _, _, by rw [List.getElem?_map, List.getElem?_range hi]; rfl, .int _⟩
  stop := fun H' e => by
    unfold rngD
    rw [List.length_map, List.length_range]
    exact Nat.le_refl n
end
section
variable {X : Cx} {Tb : List Addr} {W : WX} {tg : Expr}
theorem pi_both {l : Expr} {tl : TE} (hl : PE X l tl) : PI X tg l (fun σ H R => tl σ H fun x H1 => ∃ a, x = .ref a ∧ (((∃ xs, SqL X.K H1 a xs) ∧ R (Itl X.K a) H1) ∨ ((∃ xs, SqT X.K H1 a xs) ∧ R (Itt X.K a) H1))) := by
  refine ⟨fun pins s σ H R I h => ?_⟩
  refine thn (hl.run pins s σ H _ I h) fun v s1 ⟨x, H1, I1, r1, q1⟩ => ?_
  obtain ⟨a, e, q | q⟩ := q1
  · have k : PI X tg (.Name "x" ⟨0, 0, 0, 0⟩) (fun _ H' R' => H' = H1 ∧ R' = R) → True := fun _ => trivial
    obtain ⟨⟨xs, hq⟩, q⟩ := q
    subst e
    cases r1
    obtain ⟨its, rv, p, hz⟩ := I1.list hq
    refine wpAny_pyIter_list p.isList ?_
    have f : FpOk X pins H1 s1.heap.objs.size := I1.fpOk (Nat.le_refl _) (I1.hok.fresh (Nat.le_refl _))
    exact ⟨s1.heap.objs.size, [s1.heap.objs.size], _, _, H1, rfl, I1.kept (t' := s1.toks) fun b o e => Heap.get?_push_of_some _ e, turn_list a _, ⟨_, Heap.get?_push_size _ rfl, rfl, rfl⟩, fun b hb => (List.mem_singleton.mp hb) ▸ f, q⟩
  · obtain ⟨⟨xs, hq⟩, q⟩ := q
    subst e
    cases r1
    obtain ⟨its, rv, p, hz⟩ := I1.tuple hq
    refine wpAny_pyIter_tuple (show s1.heap.IsTuple a its.toArray from p) ?_
    have f : FpOk X pins H1 s1.heap.objs.size := I1.fpOk (Nat.le_refl _) (I1.hok.fresh (Nat.le_refl _))
    exact ⟨s1.heap.objs.size, [s1.heap.objs.size], _, _, H1, rfl, I1.kept (t' := s1.toks) fun b o e => Heap.get?_push_of_some _ e, turn_tuple a _, ⟨_, Heap.get?_push_size _ rfl, rfl, rfl⟩, fun b hb => (List.mem_singleton.mp hb) ▸ f, q⟩
def dItems (f : Dn) : DnL := fun ρ => f ρ >>= items
theorem fi_seq {l : Expr} {f : Dn} (hl : PE X l (tD X.K Tb W f)) : PI X tg l (tI X.K Tb W (dItems f)) := (pi_both hl).by fun σ H R ⟨H0, O0, O, ρ, st, h⟩ => ⟨H0, O0, O, ρ, st, by
  refine Post.then h fun d v H1 e r k => ?_
  unfold items at k
  split at k
  · cases r with
    | lst h1 z1 a1 => exact ⟨_, rfl, .inl ⟨⟨_, Sub.unhide.sqL h1⟩, k _ H1 (Ext.refl _) (itd_list h1 z1 a1)⟩⟩
  · cases r with
    | tup h1 z1 a1 => exact ⟨_, rfl, .inr ⟨⟨_, Sub.unhide.sqT h1⟩, k _ H1 (Ext.refl _) (itd_tup h1 z1 a1)⟩⟩
  · exact k.elim⟩
def rngA1 : List PyData → R (List PyData)
  | [.int n] => if -(2 ^ 62) ≤ n ∧ n.toNat ≤ sizeLine then .ok (rngD 0 n.toNat) else .bad
  | _ => .bad
def rngA2 : List PyData → R (List PyData)
  | [.int a, .int b] => if (-(2 ^ 62) ≤ a ∧ a < 2 ^ 62 ∧ -(2 ^ 62) ≤ b ∧ b < 2 ^ 62) ∧ (b - a).toNat ≤ sizeLine then .ok (rngD a (b - a).toNat) else .bad
  | _ => .bad
def dRng1 (g : DnL) : DnL := fun ρ => g ρ >>= rngA1
def dRng2 (g : DnL) : DnL := fun ρ => g ρ >>= rngA2
theorem line62 : (sizeLine : Int) < 2 ^ 62 := by rw [sizeLine_eq]; decide
theorem fi_rng1 {a : Expr} {g : DnL} {p pos : Pos} (hg : Gl X "range") (hm : X.mg "range" = none) (ha : PA X [a] (tDs X.K Tb W g)) (hs : starEach [a] X.env = [(false, eval a X.env)] := by rfl) : PI X tg (.Call (.Name "range" p) [a] [] pos) (tI X.K Tb W (dRng1 g)) :=
  (pi_range1 hg hm ha hs).by fun σ H R' ⟨H0, O0, O, ρ, st, h⟩ => ⟨H0, O0, O, ρ, st, by
    refine Post.then h fun d v H1 e r k => ?_
    unfold rngA1 at k
    split at k
    · split at k
      · rename_i z
        cases r with
        | cons r1 r2 =>
          cases r2
          cases r1
          have := line62
          exact ⟨_, rfl, z.1, by omega, k _ H1 (Ext.refl _) (itd_rng z.2)⟩
      · exact k.elim
    · exact k.elim⟩
inductive Tg where
  | nm (i : Nat)
  | tp (ts : List Tg)
mutual
def Tg.set : Tg → PyData → Rho → Option Rho
  | .nm i, d, ρ => some (ρ.set i (some (.d d)))
  | .tp ts, d, ρ => match d with
    | .tuple ds => Tg.sets ts ds ρ
    | _ => none
def Tg.sets : List Tg → List PyData → Rho → Option Rho
  | [], [], ρ => some ρ
  | t :: ts, d :: ds, ρ => (Tg.set t d ρ).bind fun ρ' => Tg.sets ts ds ρ'
  | _, _, _ => none
end
mutual
def Tg.ixs : Tg → List Nat
  | .nm i => [i]
  | .tp ts => Tg.ixss ts
def Tg.ixss : List Tg → List Nat
  | [] => []
  | t :: ts => Tg.ixs t ++ Tg.ixss ts
end
/-- but for the places is -/
def Agr (is : List Nat) (σ σ' : L2.St) : Prop := σ'.length = σ.length ∧ ∀ j, j ∉ is → σ'[j]? = σ[j]?
theorem Agr.refl (is : List Nat) (σ : L2.St) : Agr is σ σ := ⟨rfl, fun _ _ => rfl⟩
theorem Agr.trans {is js : List Nat} {σ σ1 σ2 : L2.St} (a : Agr is σ σ1) (b : Agr js σ1 σ2) : Agr (is ++ js) σ σ2 :=
  ⟨b.1.trans a.1, fun j h => by rw [List.mem_append, not_or] at h; rw [b.2 j h.2, a.2 j h.1]⟩
theorem wipe_in {σ : L2.St} {j : Nat} : ∀ {vs : List Nat}, j ∈ vs → j < σ.length → (wipe σ vs)[j]? = some none
  | v :: vs, h, hl => by
    unfold wipe
    by_cases e : v = j
    · subst e
      rw [List.getElem?_set_self (by rw [wipe_length]; exact hl)]
    · rw [List.getElem?_set_ne e]
      rcases List.mem_cons.mp h with h | h
      · exact absurd h.symm e
      · exact wipe_in h hl
theorem Agr.wipe {is vs : List Nat} {σ σ' : L2.St} (a : Agr is σ σ') (h : ∀ i ∈ is, i ∈ vs) : L2.wipe σ' vs = L2.wipe σ vs := by
  apply List.ext_getElem?
  intro j
  by_cases hj : j ∈ vs
  · by_cases hl : j < σ.length
    · rw [wipe_in hj hl, wipe_in hj (by rw [a.1]; exact hl)]
    · rw [List.getElem?_eq_none (by rw [wipe_length, a.1]; omega), List.getElem?_eq_none (by rw [wipe_length]; omega)]
  · rw [wipe_out hj, wipe_out hj, a.2 j fun m => hj (h j m)]
/-- a target: the value v, that reads as d, is stored -/
def tG (K : PySem.W.Frag) (Tb : List Addr) (t : Tg) : TG := fun v σ H Q => ∃ H0 O0 O ρ ρ' d, St0 K Tb H0 O0 O H σ ρ ∧ Rp K (hide O H) v d ∧ t.set d ρ = some ρ' ∧ ∀ σ', St0 K Tb H0 O0 O H σ' ρ' → Agr t.ixs σ σ' → Q σ' H
def tGs (K : PySem.W.Frag) (Tb : List Addr) (ts : List Tg) : TGs := fun vs σ H Q => ∃ H0 O0 O ρ ρ' ds, St0 K Tb H0 O0 O H σ ρ ∧ RpAll K (hide O H) vs ds ∧ Tg.sets ts ds ρ = some ρ' ∧ ∀ σ', St0 K Tb H0 O0 O H σ' ρ' → Agr (Tg.ixss ts) σ σ' → Q σ' H
theorem _root_.L2.PG.by {X : Cx} {tg : Expr} {t t' : TG} (h : PG X tg t) (i : ∀ v σ H Q, t' v σ H Q → t v σ H Q) : PG X tg t' := ⟨fun pins s σ H v u Q I r q => h.run pins s σ H v u Q I r (i v σ H Q q)⟩
theorem _root_.L2.PGs.by {X : Cx} {tg : List Expr} {t t' : TGs} (h : PGs X tg t) (i : ∀ v σ H Q, t' v σ H Q → t v σ H Q) : PGs X tg t' := ⟨fun pins s σ H v u Q I r q => h.run pins s σ H v u Q I r (i v σ H Q q)⟩
theorem St0.set {K : PySem.W.Frag} {H0 H : Hp} {O0 O : List Addr} {ρ : Rho} {σ : L2.St} {i : Nat} {v : V} {d : PyData} (st : St0 K Tb H0 O0 O H σ ρ) (r : Rp K (hide O H) v d) : St0 K Tb H0 O0 O H (σ.set i (some v)) (ρ.set i (some (.d d))) where
  ext := st.ext
  sub := st.sub
  new := st.new
  al := st.al
  tab := st.tab
  pln := st.pln
  len := by rw [List.length_set, List.length_set]; exact st.len
  slot := fun j x h => by
    by_cases e : i = j
    · subst e
      have hl : i < ρ.length := by
        have := (List.getElem?_eq_some_iff.mp h).1
        rw [List.length_set] at this
        exact this
      rw [List.getElem?_set_self hl] at h
      cases h
      exact ⟨v, by rw [List.getElem?_set_self (by rw [st.len]; exact hl)], r⟩
    · rw [List.getElem?_set_ne e] at h ⊢
      exact st.slot j x h
  inj := fun j k p xs ys hx hy h1 h2 h3 h4 => by
    by_cases e : i = j
    · subst e
      have hl : i < ρ.length := by
        have := (List.getElem?_eq_some_iff.mp h1).1
        rw [List.length_set] at this
        exact this
      rw [List.getElem?_set_self hl] at h1
      cases h1
      exact hx.elim
    · by_cases e2 : i = k
      · subst e2
        have hl : i < ρ.length := by
          have := (List.getElem?_eq_some_iff.mp h2).1
          rw [List.length_set] at this
          exact this
        rw [List.getElem?_set_self hl] at h2
        cases h2
        exact hy.elim
      · rw [List.getElem?_set_ne e] at h1 h3
        rw [List.getElem?_set_ne e2] at h2 h4
        exact st.inj j k p xs ys hx hy h1 h2 h3 h4
theorem fg_nm {i : Nat} {x : Str} {pos : Pos} (hN : X.N.Nodup) (hi : X.N[i]? = some x) (hx : Loc X.env.scope x) (hf : X.fn x = true ∨ X.env.scope.names.lookup x = some .local := by first | exact .inl rfl | exact .inr rfl | assumption) : PG X (.Name x pos) (tG X.K Tb (.nm i)) :=
  (pg_name hN hi hx hf).by fun v σ H Q ⟨H0, O0, O, ρ, ρ', d, st, r, e, q⟩ => by
    unfold Tg.set at e
    cases e
    refine q _ (st.set r) ⟨by rw [List.length_set], fun j hj => ?_⟩
    unfold Tg.ixs at hj
    rw [List.getElem?_set_ne (fun e => hj (by rw [e]; exact List.mem_singleton.mpr rfl))]
theorem fgs_nil : PGs X [] (tGs X.K Tb []) := pgs_nil.by fun v σ H Q ⟨H0, O0, O, ρ, ρ', ds, st, r, e, q⟩ => by
  cases r with
  | nil =>
    unfold Tg.sets at e
    cases e
    exact ⟨rfl, q _ st (Agr.refl _ _)⟩
  | cons _ _ => unfold Tg.sets at e; cases e
theorem fgs_cons {e : Expr} {es : List Expr} {t : Tg} {ts : List Tg} (h1 : PG X e (tG X.K Tb t)) (h2 : PGs X es (tGs X.K Tb ts))
    (hs : (assignEach (e :: es) X.env).map (·.2) = assign e X.env :: (assignEach es X.env).map (·.2) := by rfl) : PGs X (e :: es) (tGs X.K Tb (t :: ts)) := (pgs_cons h1 h2 hs).by fun v σ H Q ⟨H0, O0, O, ρ, ρ', ds, st, r, e, q⟩ => by
  cases r with
  | nil => unfold Tg.sets at e; cases e
  | @cons v vs d ds r1 r2 =>
    unfold Tg.sets at e
    cases e1 : Tg.set t d ρ with
    | none => rw [e1] at e; cases e
    | some ρ1 =>
      rw [e1] at e
      refine ⟨v, vs, rfl, H0, O0, O, ρ, ρ1, d, st, r1, e1, fun σ' st' ag => ?_⟩
      refine ⟨H0, O0, O, ρ1, ρ', ds, st', r2, e, fun σ2 st2 ag2 => q _ st2 ?_⟩
      unfold Tg.ixss
      exact ag.trans ag2
theorem fg_tup {es : List Expr} {k : Nat} {ts : List Tg} {pos : Pos} {n : Nat} (hc : X.calm = true) (h : PGs X es (tGs X.K Tb ts)) (hn : (assignEach es X.env).length = n := by rfl) (hst : (assignEach es X.env).findIdx? (·.1) = none := by rfl) (hl : ts.length = n := by rfl) :
    PG X (.Tuple es k pos) (tG X.K Tb (.tp ts)) := (pg_tup hc h hn hst).by fun v σ H Q ⟨H0, O0, O, ρ, ρ', d, st, r, e, q⟩ => by
  unfold Tg.set at e
  split at e
  · cases r with
    | tup h1 z1 a1 =>
      rename_i xs ds _
      have hlen : ∀ (ts : List Tg) (ds : List PyData) (ρ ρ' : Rho), Tg.sets ts ds ρ = some ρ' → ds.length = ts.length := by
        intro ts
        induction ts with
        | nil => intro ds ρ ρ' e; cases ds with
          | nil => rfl
          | cons _ _ => unfold Tg.sets at e; cases e
        | cons t ts ih => intro ds ρ ρ' e; cases ds with
          | nil => unfold Tg.sets at e; cases e
          | cons d ds =>
            unfold Tg.sets at e
            cases e1 : Tg.set t d ρ with
            | none => rw [e1] at e; cases e
            | some ρ1 =>
              rw [e1] at e
              rw [List.length_cons, List.length_cons, ih _ _ _ e]
      refine ⟨_, _, rfl, Sub.unhide.sqT h1, ?_, H0, O0, O, ρ, ρ', _, st, a1, e, fun σ' st' ag => q σ' st' ?_⟩
      · rw [a1.length, hlen _ _ _ _ e, hl]
      · unfold Tg.ixs
        exact ag
  · cases e
end
end PD
set_option Elab.async false
set_option linter.all false
set_option maxRecDepth 100000
set_option maxHeartbeats 1000000
namespace PD
open PySem PySem.Spec PyProof.Rows L2
def nx {α β : Type} (x : R α) (k : α → R β) : R β := match x with
  | .ok a => k a
  | _ => .bad
theorem nx_ok {α β : Type} {x : R α} {k : α → R β} {b : β} (h : nx x k = .ok b) : ∃ a, x = .ok a ∧ k a = .ok b := by
  cases x with
  | ok a => exact ⟨a, rfl, h⟩
  | exc e => cases h
  | bad => cases h
@[simp] theorem nx_ok' {α β : Type} {a : α} {k : α → R β} : nx (.ok a) k = k a := rfl
def wipeR (ρ : Rho) : List Nat → Rho
  | [] => ρ
  | v :: vs => (wipeR ρ vs).set v none
def lcGo (t : Tg) (ft : DnB) (fe : Dn) (ρ : Rho) : List PyData → R (List PyData)
  | [] => .ok []
  | d :: ds => match t.set d ρ with
    | some ρ1 => nx (ft ρ1) fun b => if b = true then nx (fe ρ1) fun y => nx (lcGo t ft fe ρ ds) fun ys => .ok (y :: ys) else lcGo t ft fe ρ ds
    | none => .bad
def dLc (fi : DnL) (t : Tg) (ft : DnB) (fe : Dn) (vs : List Nat) : Dn := fun ρ => fi ρ >>= fun ds => nx (lcGo t ft fe (wipeR ρ vs) ds) fun ys => .ok (.list ys)
def W0 : WX := fun _ _ _ _ => False
def dYes : DnB := fun _ => .ok true
theorem wipeR_length (ρ : Rho) : ∀ vs : List Nat, (wipeR ρ vs).length = ρ.length
  | [] => rfl
  | v :: vs => by unfold wipeR; rw [List.length_set, wipeR_length ρ vs]
theorem wipeR_some {ρ : Rho} {i : Nat} {x : Sl} : ∀ {vs : List Nat}, (wipeR ρ vs)[i]? = some (some x) → ρ[i]? = some (some x) ∧ i ∉ vs
  | [], h => ⟨h, by simp⟩
  | v :: vs, h => by
    unfold wipeR at h
    by_cases hi : v = i
    · subst hi
      by_cases hv : v < (wipeR ρ vs).length
      · rw [List.getElem?_set_self hv] at h; cases h
      · rw [List.getElem?_eq_none (by simpa using hv)] at h; cases h
    · rw [List.getElem?_set_ne hi] at h
      obtain ⟨h1, h2⟩ := wipeR_some h
      exact ⟨h1, by simp only [List.mem_cons, not_or]; exact ⟨fun e => hi e.symm, h2⟩⟩
theorem wipe_wipe {σ : L2.St} {vs : List Nat} : L2.wipe (L2.wipe σ vs) vs = L2.wipe σ vs := by
  refine Agr.wipe (is := vs) ⟨wipe_length _ _, fun j h => wipe_out h⟩ fun _ h => h
section
variable {K : PySem.W.Frag} {Tb : List Addr} {H0 H H1 : Hp} {O0 O : List Addr} {ρ : Rho} {σ : L2.St} {D p : Addr} {o : HO}
theorem St0.wiped (st : St0 K Tb H0 O0 O H σ ρ) (vs : List Nat) : St0 K Tb H0 O0 O H (L2.wipe σ vs) (wipeR ρ vs) where
  ext := st.ext
  sub := st.sub
  new := st.new
  al := st.al
  tab := st.tab
  pln := st.pln
  len := by rw [wipe_length, wipeR_length]; exact st.len
  slot := fun i x h => by
    obtain ⟨h1, h2⟩ := wipeR_some h
    obtain ⟨v, h3, h4⟩ := st.slot i x h1
    exact ⟨v, by rw [wipe_out h2]; exact h3, h4⟩
  inj := fun i j p xs ys hx hy h1 h2 h3 h4 => by
    obtain ⟨a1, a2⟩ := wipeR_some h1
    obtain ⟨b1, b2⟩ := wipeR_some h2
    rw [wipe_out a2] at h3
    rw [wipe_out b2] at h4
    exact st.inj i j p xs ys hx hy a1 b1 h3 h4
theorem tabG_ne {H : Hp} {P p : Addr} (t : TabC H P) (h : ∀ ps, H p ≠ some (.tbl ps)) : P ≠ p := fun e => by
  obtain ⟨ps, q, _⟩ := t
  rw [e] at q
  exact h ps q
theorem Ext.updN (e : Ext H H1) (n : H D = none) (pl : ∀ c q, H1 D ≠ some (LamX.CodeO c q)) : Ext H (upd H1 D o) where
  keep := fun b x h t => by
    rw [upd_ne (ne_of_none h n)]
    exact e.keep b x h t
  tab := fun b t => by
    have hb : b ≠ D := tabG_ne t fun ps q => by rw [n] at q; cases q
    exact (e.tab b t).mono (fun ps h => by rw [upd_ne hb]; exact h) fun c q h => by rw [upd_ne fun z => pl c q (by rw [← z]; exact h)]; exact h
  al := fun b h => by
    by_cases hb : b = D
    · rw [hb, upd_same]; simp
    · rw [upd_ne hb]; exact e.al b h
theorem hide_upd (m : p ∈ O) : hide O (upd H p o) = hide O H := by
  funext b
  unfold hide
  by_cases hb : b ∈ O
  · rw [if_pos hb, if_pos hb]
  · rw [if_neg hb, if_neg hb, upd_ne (fun e => hb (by rw [e]; exact m))]
/-- a new hidden object -/
theorem St0.more (st : St0 K Tb H0 O0 O H σ ρ) (n : H D = none) (pl : Plain o) : St0 K Tb H0 O0 (D :: O) (upd H D o) σ ρ := by
  have n0 : H0 D = none := by
    cases q : H0 D with
    | none => rfl
    | some x => exact absurd n (st.ext.al D (by rw [q]; simp))
  have sub : Sub (hide O H) (hide (D :: O) (upd H D o)) := fun b x h t => by
    obtain ⟨h1, h2⟩ := hide_some h
    have hb : b ≠ D := ne_of_none h2 n
    rw [hide_out (by rw [List.mem_cons, not_or]; exact ⟨hb, h1⟩), upd_ne hb]
    exact h2
  refine ⟨st.ext.updN n0 (fun _ _ z => by rw [n] at z; cases z), fun b h => List.mem_cons_of_mem _ (st.sub b h), fun b h h2 => ?_, fun b h => ?_, fun P m => ?_, fun b m m2 => ?_, st.len, fun i x h => ?_, st.inj⟩
  · rcases List.mem_cons.mp h with rfl | h
    · exact n0
    · exact st.new b h h2
  · rcases List.mem_cons.mp h with rfl | h
    · rw [upd_same]; simp
    · by_cases hb : b = D
      · rw [hb, upd_same]; simp
      · rw [upd_ne hb]; exact st.al b h
  · exact (st.tab P m).mono (fun ps h => by rw [upd_ne (ne_of_none h n)]; exact h) fun c q h => by rw [upd_ne (ne_of_none h n)]; exact h
  · rcases List.mem_cons.mp m with rfl | m
    · exact ⟨o, upd_same, pl⟩
    · obtain ⟨x, h, q⟩ := st.pln b m m2
      exact ⟨x, by rw [upd_ne (ne_of_none h n)]; exact h, q⟩
  · obtain ⟨v, h1, h2⟩ := st.slot i x h
    exact ⟨v, h1, h2.mv sub (fun _ p _ m _ => ⟨List.mem_cons_of_mem _ m, fun o hp _ => by rw [upd_ne (ne_of_none hp n)]; exact hp⟩) fun dd fs h => by rw [upd_ne (ne_of_none h n)]; exact h⟩
/-- the hidden object at D, which no slot owns, is changed -/
theorem St0.hid (st : St0 K Tb H0 O0 O H σ ρ) (m : D ∈ O) (m0 : D ∉ O0) {l : List V} (hD : H D = some (.lst l)) (hs : ∀ (i : Nat) (s : Sl), s.Hold → ρ[i]? = some (some s) → σ[i]? ≠ some (some (.ref D))) {l' : List V} : St0 K Tb H0 O0 O (upd H D (.lst l')) σ ρ where
  ext := st.ext.updN (st.new D m m0) (fun c q z => by rw [hD] at z; exact (plain_lst l).1 c q (Option.some.inj z))
  sub := st.sub
  new := st.new
  al := fun b h => by
    by_cases hb : b = D
    · rw [hb, upd_same]; simp
    · rw [upd_ne hb]; exact st.al b h
  tab := fun P mp => by
    have hb : P ≠ D := tabG_ne (st.tab P mp) fun ps q => by rw [hD] at q; cases q
    exact (st.tab P mp).mono (fun ps h => by rw [upd_ne hb]; exact h) fun c q h => by
      rw [upd_ne fun z => (plain_lst l).1 c q (Option.some.inj (hD.symm.trans (by rw [← z]; exact h)))]
      exact h
  pln := fun b mb nb => by
    by_cases hb : b = D
    · exact ⟨_, by rw [hb]; exact upd_same, plain_lst l'⟩
    · obtain ⟨x, h, q⟩ := st.pln b mb nb
      exact ⟨x, by rw [upd_ne hb]; exact h, q⟩
  len := st.len
  slot := fun i x h => by
    obtain ⟨v, h1, h2⟩ := st.slot i x h
    refine ⟨v, h1, h2.mv (by rw [hide_upd m]; exact fun _ _ h _ => h) (fun hx p ev mp _ => ⟨mp, fun o hp _ => ?_⟩) fun dd fs h => ?_⟩
    · have hne : p ≠ D := fun e => hs i x hx h (by rw [h1, ev, e])
      rw [upd_ne hne]; exact hp
    · rw [upd_ne (fun e => by rw [e, hD] at h; cases h)]; exact h
  inj := st.inj
theorem Ext.unhide : Ext (hide O H) H where
  keep := Sub.unhide
  tab := fun b t => t.mono (fun ps h => (hide_some h).2) fun c q h => (hide_some h).2
  al := fun b h => by
    cases q : hide O H b with
    | none => exact absurd q h
    | some x => rw [(hide_some q).2]; simp
theorem hide_in {b : Addr} (h : b ∈ O) : hide O H b = none := by unfold hide; rw [if_pos h]
theorem hide_none {b : Addr} (h : H b = none) : hide O H b = none := by unfold hide; split <;> first | rfl | exact h
end
section
variable {X : Cx} {Tb : List Addr} {W : WX}
theorem ft_yes : PTs X [] (tDT X.K Tb W dYes) := ⟨fun pins s σ H Q I ⟨_, _, _, _, _, h⟩ => pts_nil.run pins s σ H Q I (h true H (Ext.refl _) rfl)⟩
theorem ft_one {c : Expr} {f : DnB} (h : PT X c (tDT X.K Tb W f)) : PTs X [c] (tDT X.K Tb W f) := pts_one h
/-- the turns of a comprehension's block -/
theorem lc_turns {K : PySem.W.Frag} {t : Tg} {ft : DnB} {fe : Dn} {vs : List Nat} {σ : L2.St} {ρ : Rho} {H0 H1 : Hp} {O0 O : List Addr} {J : It} {ds ys : List PyData} {Q : VK} (hv : ∀ i ∈ t.ixs, i ∈ vs)
    (st1 : St0 K Tb H0 O0 O H1 σ ρ) (it : ItD K (hide O H1) J ds) (hys : lcGo t ft fe (wipeR ρ vs) ds = .ok ys)
    (fin : ∀ D acc H', Ext H1 H' → H1 D = none → H' D = some (.lst acc) → ys.length ≤ sizeLine → RpAll K (hide (D :: O) H') acc ys → Q (.ref D) H') :
    ∀ D, H1 D = none → ∃ W : Nat → Nat → Hp → Prop, (∃ m, W 0 m (upd H1 D (.lst []))) ∧ ∀ i m H, W i m H →
      (J.stop i H ∧ Q (.ref D) H) ∨ (J.go i H ∧ ∃ Nx : Hp → Prop, (∀ H', Nx H' → ∃ m', m' < m ∧ W (i + 1) m' H') ∧ ∀ x H', J.yld i H x H' → tG K Tb t x (L2.wipe σ vs) H' fun σ2 H2 => L2.wipe σ2 vs = L2.wipe σ vs ∧ tDT K Tb W0 ft σ2 H2 fun b H3 =>
        if b = true then tD K Tb W0 fe σ2 H3 fun y H4 => ∃ acc, H4 D = some (.lst acc) ∧ acc.length < sizeLine ∧ Nx (upd H4 D (.lst (acc ++ [y]))) else Nx H3) := by
  intro D nD
  have aD : D ∉ O := st1.fresh nD
  have stw := (st1.wiped vs).more (o := .lst []) nD (plain_lst [])
  have aD0 : D ∉ O0 := fun m => aD (st1.sub D m)
  have own : ∀ (i : Nat) (s : Sl), s.Hold → (wipeR ρ vs)[i]? = some (some s) → (L2.wipe σ vs)[i]? ≠ some (some (.ref D)) := fun i s hs h1 h2 => aD ((st1.wiped vs).hold hs h1 h2).1
  have nO : ∀ b ∈ D :: O, hide O H1 b = none := fun b hb => by
    rcases List.mem_cons.mp hb with rfl | hb
    · exact hide_none nD
    · exact hide_in hb
  refine ⟨fun i m H' => i ≤ ds.length ∧ m = ds.length - i ∧ ∃ acc accD rest, St0 K Tb H0 O0 (D :: O) H' (L2.wipe σ vs) (wipeR ρ vs) ∧ Ext H1 H' ∧ H' D = some (.lst acc) ∧ RpAll K (hide (D :: O) H') acc accD ∧ acc.length ≤ i ∧ lcGo t ft fe (wipeR ρ vs) (ds.drop i) = .ok rest ∧ accD ++ rest = ys,
    ⟨ds.length, Nat.zero_le _, by simp, [], [], ys, stw, Ext.new nD, upd_same, .nil, Nat.le_refl _, hys, rfl⟩, ?_⟩
  rintro i m H' ⟨hi, rfl, acc, accD, rest, s1, e1, hD, ra, la, go, ey⟩
  have eG : Ext (hide O H1) H' := Ext.unhide.trans e1
  by_cases hlt : i < ds.length
  · refine .inr ⟨it.go i H' eG hlt, fun H2 => i + 1 ≤ ds.length ∧ ∃ acc accD rest, St0 K Tb H0 O0 (D :: O) H2 (L2.wipe σ vs) (wipeR ρ vs) ∧ Ext H1 H2 ∧ H2 D = some (.lst acc) ∧ RpAll K (hide (D :: O) H2) acc accD ∧ acc.length ≤ i + 1 ∧ lcGo t ft fe (wipeR ρ vs) (ds.drop (i + 1)) = .ok rest ∧ accD ++ rest = ys,
      fun H2 q => ⟨ds.length - (i + 1), by omega, q.1, rfl, q.2⟩, fun x H2 y => ?_⟩
    obtain ⟨e2, d, hd, rx⟩ := it.yld i H' (D :: O) x H2 eG nO s1.al hlt y
    have hdr : ds.drop i = d :: ds.drop (i + 1) := by
      obtain ⟨hl, hd'⟩ := List.getElem?_eq_some_iff.mp hd
      rw [List.drop_eq_getElem_cons hl, hd']
    rw [hdr] at go
    unfold lcGo at go
    cases et : t.set d (wipeR ρ vs) with
    | none => rw [et] at go; cases go
    | some ρ1 =>
      rw [et] at go
      obtain ⟨b, eb, go⟩ := nx_ok go
      have s2 := s1.step e2
      refine ⟨H0, O0, D :: O, wipeR ρ vs, ρ1, d, s2, rx, et, fun σ' st' ag => ⟨(ag.wipe hv).trans wipe_wipe, H0, O0, D :: O, ρ1, st', ?_⟩⟩
      rw [eb]
      intro b' H3 e3 r3
      cases (show b' = b from r3)
      have s3 := st'.step e3
      cases b with
      | false =>
        refine ⟨hlt, acc, accD, rest, s2.step e3, (e1.trans e2).trans e3, (e2.trans e3).keep D _ hD (fun _ q => by cases q), ra.mono (Sub.hide (e2.trans e3).keep), Nat.le_succ_of_le la, go, ey⟩
      | true =>
        obtain ⟨yd, ey1, go⟩ := nx_ok go
        obtain ⟨rs, er, go⟩ := nx_ok go
        cases go
        refine ⟨H0, O0, D :: O, ρ1, s3, ?_⟩
        rw [ey1]
        intro y H4 e4 r4
        have hD4 := ((e2.trans e3).trans e4).keep D _ hD (fun _ q => by cases q)
        have s4 := (s2.step e3).step e4
        have zl : acc.length < sizeLine := by have := it.len; omega
        refine ⟨acc, hD4, zl, hlt, acc ++ [y], accD ++ [yd], rs, s4.hid List.mem_cons_self aD0 hD4 own, (((e1.trans e2).trans e3).trans e4).updN nD (fun c q z => (plain_lst acc).1 c q (Option.some.inj (hD4.symm.trans z))), upd_same, ?_, ?_, er, ?_⟩
        · rw [hide_upd List.mem_cons_self]
          exact (ra.mono (Sub.hide ((e2.trans e3).trans e4).keep)).append (.one r4)
        · rw [List.length_append]; simp; exact la
        · rw [List.append_assoc]; exact ey
  · have ei : i = ds.length := by omega
    subst ei
    refine .inl ⟨it.stop H' eG, ?_⟩
    rw [List.drop_length] at go
    cases go
    rw [List.append_nil] at ey
    subst ey
    refine fin D acc H' e1 nD hD ?_ ra
    have := it.len
    have := ra.length
    omega
/-- the walk of a comprehension's block -/
theorem lc_walk {K : PySem.W.Frag} {t : Tg} {ft : DnB} {fe : Dn} {fi : DnL} {vs : List Nat} {σ : L2.St} {H : Hp} {Q : VK} (hv : ∀ i ∈ t.ixs, i ∈ vs) (h : tD K Tb W (dLc fi t ft fe vs) σ H Q) :
    tLc (tI K Tb W fi) (tG K Tb t) (tDT K Tb W0 ft) (tD K Tb W0 fe) vs σ H Q := by
  obtain ⟨H0, O0, O, ρ, st, h⟩ := h
  refine ⟨H0, O0, O, ρ, st, Post.then h fun ds J H1 e it k => ?_⟩
  cases q : lcGo t ft fe (wipeR ρ vs) ds with
  | exc x => rw [q] at k; exact k.elim
  | bad => rw [q] at k; exact k.elim
  | ok ys =>
    rw [q] at k
    refine lc_turns hv (st.step e) it q fun D acc H' e1 nD hD z ra => ?_
    have aD : D ∉ O := (st.step e).fresh nD
    exact k _ H' e1 (.lst (.of (by rw [hide_out aD]; exact hD)) z (ra.mono (Sub.less fun b hb => List.mem_cons_of_mem _ hb)))
/-- [e for t in i if c] -/
theorem fd_lc {elt tg iter : Expr} {ifs : List Expr} {scope : Scope} {own : List (Str × Nat)} {pos : Pos} {fi : DnL} {t : Tg} {ft : DnB} {fe : Dn} (hc : X.calm = true) (hN : X.N.Nodup) (hi : PI X tg iter (tI X.K Tb W fi)) (ok : BlkOk X.N X.env.scope scope own)
    (hg : ∀ (s : Shared) (H : Hp) (C : Addr) (cl : List (Str × Addr)) (fp : List Addr), PG (X.blk s H scope (compEnvC scope cl C X.env) fp) tg (tG X.K Tb t))
    (ht : ∀ (s : Shared) (H : Hp) (C : Addr) (cl : List (Str × Addr)) (fp : List Addr), PTs (X.blk s H scope (compEnvC scope cl C X.env) fp) ifs (tDT X.K Tb W0 ft))
    (he : ∀ (s : Shared) (H : Hp) (C : Addr) (cl : List (Str × Addr)) (fp : List Addr), PE (X.blk s H scope (compEnvC scope cl C X.env) fp) elt (tD X.K Tb W0 fe))
    (hv : ∀ i ∈ t.ixs, i ∈ own.map (·.2) := by decide) (hs : ∀ x, foldedSetIterable iter X.env x = pure x := by intro _; rfl) : PE X (.ListComp elt [⟨tg, iter, ifs, 0⟩] scope pos) (tD X.K Tb W (dLc fi t ft fe (own.map (·.2)))) :=
  (pe_lc hc hN hi ok hg ht he hs).by fun σ H Q h => lc_walk hv h
end
end PD
set_option Elab.async false
set_option linter.all false
set_option maxRecDepth 100000
set_option maxHeartbeats 1000000
namespace PD
open PySem PySem.Spec PyProof.Rows L2
inductive Out where
  | nx (ρ : Rho)
  | rt (d : PyData)
  | bk (ρ : Rho)
  | ct (ρ : Rho)
  | exc (e : Ex) (ρ : Rho)
  | bad
abbrev Sn := Rho → Out
def PostS (K : PySem.W.Frag) (Tb : List Addr) (W : WX) (H0 : Hp) (O0 : List Addr) (out : Out) (D : Ends) : Prop := match out with
  | .nx ρ => ∀ O σ H, St0 K Tb H0 O0 O H σ ρ → D.nx σ H
  | .rt d => ∀ v H, Ext H0 H → Rp K (hide O0 H) v d → D.rt v H
  | .bk ρ => ∀ O σ H, St0 K Tb H0 O0 O H σ ρ → D.bk σ H
  | .ct ρ => ∀ O σ H, St0 K Tb H0 O0 O H σ ρ → D.ct σ H
  | .exc e ρ => ∀ O σ H c d, St0 K Tb H0 O0 O H σ ρ → ExR K (hide O H) H c d e → W c d σ H
  | .bad => False
def tS (K : PySem.W.Frag) (Tb : List Addr) (W : WX) (g : Sn) : TS := fun D σ H => ∃ H0 O0 O ρ, St0 K Tb H0 O0 O H σ ρ ∧ PostS K Tb W H0 O0 (g ρ) D
/-- a result, then a statement's end -/
def oR {α : Type} (x : R α) (ρ : Rho) (k : α → Out) : Out := match x with
  | .ok a => k a
  | .exc e => .exc e ρ
  | .bad => .bad
def oO (x : Option Rho) : Out := match x with
  | some ρ => .nx ρ
  | none => .bad
def gSkip : Sn := .nx
def gSeq (g h : Sn) : Sn := fun ρ => match g ρ with
  | .nx ρ' => h ρ'
  | o => o
def gSet (f : Dn) (t : Tg) : Sn := fun ρ => oR (f ρ) ρ fun d => oO (t.set d ρ)
def gExpr (f : Dn) : Sn := fun ρ => oR (f ρ) ρ fun _ => .nx ρ
def gRet (f : Dn) : Sn := fun ρ => oR (f ρ) ρ .rt
def gIf (c : DnB) (g h : Sn) : Sn := fun ρ => oR (c ρ) ρ fun b => if b = true then g ρ else h ρ
def gBrk : Sn := .bk
def forGo (t : Tg) (g : Sn) : List PyData → Rho → Out
  | [], ρ => .nx ρ
  | d :: ds, ρ => match t.set d ρ with
    | some ρ1 => match g ρ1 with
      | .nx ρ2 => forGo t g ds ρ2
      | .ct ρ2 => forGo t g ds ρ2
      | .bk ρ2 => .nx ρ2
      | o => o
    | none => .bad
def gFor (fi : DnL) (t : Tg) (g : Sn) : Sn := fun ρ => oR (fi ρ) ρ fun ds => forGo t g ds ρ
def whGo (c : DnB) (g : Sn) : Nat → Rho → Out
  | 0, _ => .bad
  | n + 1, ρ => oR (c ρ) ρ fun b => if b = true then (match g ρ with
      | .nx ρ2 => whGo c g n ρ2
      | .ct ρ2 => whGo c g n ρ2
      | .bk ρ2 => .nx ρ2
      | o => o) else .nx ρ
def gWhile (c : DnB) (g : Sn) (fuel : Rho → Nat) : Sn := fun ρ => whGo c g (fuel ρ) ρ
/-- the list that slot i owns becomes a plain datum -/
def frz (i : Nat) (ρ : Rho) : Option Rho := match ρ[i]? with
  | some (some (.own ds)) => some (ρ.set i (some (.d (.list ds))))
  | _ => none
def frzD (i : Nat) (ρ : Rho) : Option Rho := match ρ[i]? with
  | some (some (.dct ks)) => some (ρ.set i (some (.d (.dict (ks.map fun k => (.tuple (k.map .int), .bool true))))))
  | _ => none
def gFrzD (i : Nat) (g : Sn) : Sn := fun ρ => match frzD i ρ with
  | some ρ' => g ρ'
  | none => .bad
def gFrz (i : Nat) (g : Sn) : Sn := fun ρ => match frz i ρ with
  | some ρ' => g ρ'
  | none => .bad
/-- slot i owns a new list -/
def gOwn (f : Dn) (i : Nat) : Sn := fun ρ => oR (f ρ) ρ fun d => match d with
  | .list ds => .nx (ρ.set i (some (.own ds)))
  | _ => .bad
def ownAt (ρ : Rho) (i : Nat) (k : List PyData → Out) : Out := match ρ[i]? with
  | some (some (.own ds)) => k ds
  | _ => .bad
def gApp (i : Nat) (f : Dn) : Sn := fun ρ => ownAt ρ i fun ds => oR (f ρ) ρ fun d => if ds.length < sizeLine then .nx (ρ.set i (some (.own (ds ++ [d])))) else .bad
def thaw (ρ : Rho) : Rho := ρ.map fun s => match s with
  | some (.own ds) => some (.d (.list ds))
  | some (.dct ks) => some (.d (.dict (ks.map fun k => (.tuple (k.map .int), .bool true))))
  | some (.dk _) => none
  | s => s
def dThawB (f : DnB) : DnB := fun ρ => nx (f (thaw ρ)) .ok
def flat : PyData → Bool
  | .none => true
  | .bool _ => true
  | .int _ => true
  | .str _ => true
  | _ => false
def dThaw (f : Dn) : Dn := fun ρ => nx (f (thaw ρ)) fun d => if flat d = true then .ok d else .bad
section
variable {K : PySem.W.Frag} {Tb : List Addr} {W : WX} {H0 H0' H H' : Hp} {O0 O : List Addr} {ρ : Rho} {σ : L2.St} {p : Addr} {D : Ends}
theorem St0.init {vs : List V} {ds : List PyData} (n : Nat) (al : Al O H) (tb : ∀ P ∈ Tb, TabC H P) (r : RpAll K (hide O H) vs ds) : St0 K Tb H O O H (vs.map some ++ List.replicate n none) (ds.map (fun d => some (.d d)) ++ List.replicate n none) where
  ext := Ext.refl H
  sub := fun _ h => h
  new := fun b h h2 => absurd h h2
  al := al
  tab := tb
  pln := fun b m n => absurd m n
  len := by simp [r.length]
  slot := fun i s h => by
    have hi : i < ds.length := by
      by_cases hi : i < ds.length
      · exact hi
      · rw [List.getElem?_append_right (by simpa using hi), List.getElem?_replicate] at h
        split at h <;> cases h
    rw [List.getElem?_append_left (by simpa using hi), List.getElem?_map] at h
    cases e : ds[i]? with
    | none => rw [e] at h; cases h
    | some d =>
      rw [e] at h
      cases h
      obtain ⟨v, h1, h2⟩ := r.get' e
      refine ⟨v, ?_, h2⟩
      have hl : i < vs.length := by rw [r.length]; exact hi
      rw [List.getElem?_append_left (by simpa using hl), List.getElem?_map, h1]
      rfl
  inj := fun i j p xs ys hx _ h1 _ _ _ => by
    have hi : i < ds.length := by
      by_cases hi : i < ds.length
      · exact hi
      · rw [List.getElem?_append_right (by simpa using hi), List.getElem?_replicate] at h1
        split at h1 <;> cases h1
    rw [List.getElem?_append_left (by simpa using hi), List.getElem?_map] at h1
    cases e : ds[i]? with
    | none => rw [e] at h1; cases h1
    | some d => rw [e] at h1; cases h1; exact hx.elim
def rebase (O0 O : List Addr) (H : Hp) : Hp := hide (O.filter fun b => decide (b ∉ O0)) H
theorem mem_rebase {b : Addr} : b ∈ (O.filter fun b => decide (b ∉ O0)) ↔ b ∈ O ∧ b ∉ O0 := by
  rw [List.mem_filter, decide_eq_true_eq]
theorem St0.rebase (st : St0 K Tb H0 O0 O H σ ρ) : St0 K Tb (rebase O0 O H) O0 O H σ ρ :=
  ⟨Ext.unhide, st.sub, fun b h h2 => hide_in (mem_rebase.mpr ⟨h, h2⟩), st.al, st.tab, st.pln, st.len, st.slot, st.inj⟩
theorem St0.baseExt (st : St0 K Tb H0 O0 O H σ ρ) : Ext H0 (PD.rebase O0 O H) := by
  have out : ∀ b, H0 b ≠ none → PD.rebase O0 O H b = H b := fun b h => hide_out fun m => by
    obtain ⟨h1, h2⟩ := mem_rebase.mp m
    exact h (st.new b h1 h2)
  refine ⟨fun b o h t => ?_, fun b t => ?_, fun b h => ?_⟩
  · rw [out b (by rw [h]; simp)]
    exact st.ext.keep b o h t
  · refine (st.ext.tab b t).mono (fun ps h => ?_) fun c q h => ?_
    · obtain ⟨ps0, h0, _⟩ := t
      rw [out b (by rw [h0]; simp)]
      exact h
    · refine (hide_out fun m => ?_).trans h
      obtain ⟨m1, m2⟩ := mem_rebase.mp m
      obtain ⟨x, g1, g2⟩ := st.pln c m1 m2
      rw [h] at g1
      exact g2.1 c q (Option.some.inj g1).symm
  · rw [out b h]
    exact st.ext.al b h
theorem St0.unbase {O' : List Addr} {σ' : L2.St} {ρ' : Rho} (e : Ext H0 H0') (st : St0 K Tb H0' O0 O' H' σ' ρ') : St0 K Tb H0 O0 O' H' σ' ρ' :=
  ⟨e.trans st.ext, st.sub, fun b h h2 => by
    cases q : H0 b with
    | none => rfl
    | some x => exact absurd (st.new b h h2) (e.al b (by rw [q]; simp)), st.al, st.tab, st.pln, st.len, st.slot, st.inj⟩
theorem PostS.rebase {out : Out} (e : Ext H0 H0') (h : PostS K Tb W H0 O0 out D) : PostS K Tb W H0' O0 out D := by
  cases out with
  | nx ρ => exact fun O σ H st => h O σ H (st.unbase e)
  | bk ρ => exact fun O σ H st => h O σ H (st.unbase e)
  | ct ρ => exact fun O σ H st => h O σ H (st.unbase e)
  | rt d => exact fun v H e' r => h v H (e.trans e') r
  | exc x ρ => exact fun O σ H c d st => h O σ H c d (st.unbase e)
  | bad => exact h
theorem oR_post {α β : Type} {Rl : Hp → β → α → Prop} {x : R α} {k : α → Out} {Q : β → Hp → Prop} (st : St0 K Tb H0 O0 O H σ ρ) (h : PostS K Tb W H0 O0 (oR x ρ k) D)
    (q : ∀ a b H1, Ext H H1 → Rl H1 b a → PostS K Tb W H0 O0 (k a) D → Q b H1) : Post K O Rl (fun c d H => W c d σ H) H x Q := by
  cases x with
  | ok a => exact fun b H1 e r => q a b H1 e r h
  | exc e => exact fun c d H1 ex r => h O σ H1 c d (st.step ex) r
  | bad => exact h
/-- a list that slot i owns changes -/
theorem St0.ownSet {i : Nat} {ds ds' : List PyData} {vs' : List V} (st : St0 K Tb H0 O0 O H σ ρ) (hi : ρ[i]? = some (some (.own ds))) (hp : σ[i]? = some (some (.ref p))) (z : ds'.length ≤ sizeLine) (r : RpAll K (hide O H) vs' ds') :
    St0 K Tb H0 O0 O (upd H p (.lst vs')) σ (ρ.set i (some (.own ds'))) := by
  obtain ⟨v, h1, p', vs, h2, m, m0, hH, _, _⟩ := st.slot i _ hi
  rw [hp] at h1
  cases h1
  cases h2
  have il : i < ρ.length := (List.getElem?_eq_some_iff.mp hi).1
  have own : ∀ (j : Nat) (s : Sl), s.Hold → j ≠ i → ρ[j]? = some (some s) → σ[j]? ≠ some (some (.ref p)) := fun j s hs hj h1 h2 => hj (st.inj j i p s (.own ds) hs trivial h1 hi h2 hp)
  refine ⟨st.ext.updN (st.new p m m0) (fun c q z => (plain_lst vs).1 c q (Option.some.inj (hH.symm.trans z))), st.sub, st.new, fun b h => ?_, fun P mp => ?_, fun b mb nb => ?_, by rw [List.length_set]; exact st.len, fun j x h => ?_, fun j k q xs ys hx hy h1 h2 h3 h4 => ?_⟩
  · by_cases hb : b = p
    · rw [hb, upd_same]; simp
    · rw [upd_ne hb]; exact st.al b h
  · have hb : P ≠ p := tabG_ne (st.tab P mp) fun ps q => by rw [hH] at q; cases q
    exact (st.tab P mp).mono (fun ps h => by rw [upd_ne hb]; exact h) fun c q h => by
      rw [upd_ne fun z => (plain_lst vs).1 c q (Option.some.inj (hH.symm.trans (by rw [← z]; exact h)))]
      exact h
  · by_cases hb : b = p
    · exact ⟨_, by rw [hb]; exact upd_same, plain_lst vs'⟩
    · obtain ⟨x, h, q⟩ := st.pln b mb nb
      exact ⟨x, by rw [upd_ne hb]; exact h, q⟩
  · by_cases e : i = j
    · subst e
      rw [List.getElem?_set_self il] at h
      cases h
      exact ⟨_, hp, p, vs', rfl, m, m0, upd_same, z, by rw [hide_upd m]; exact r⟩
    · rw [List.getElem?_set_ne e] at h
      obtain ⟨v, h1, h2⟩ := st.slot j x h
      refine ⟨v, h1, h2.mv (by rw [hide_upd m]; exact fun _ _ h _ => h) (fun hx q ev mq _ => ⟨mq, fun o hq _ => ?_⟩) fun dd fs h => ?_⟩
      · have hne : q ≠ p := fun e2 => own j x hx (fun z => e z.symm) h (by rw [h1, ev, e2])
        rw [upd_ne hne]; exact hq
      · rw [upd_ne (fun e => by rw [e, hH] at h; cases h)]; exact h
  · have g : ∀ (j : Nat) (s : Sl), s.Hold → (ρ.set i (some (.own ds')))[j]? = some (some s) → ∃ s', s'.Hold ∧ ρ[j]? = some (some s') := fun j s hs h => by
      by_cases e : i = j
      · subst e; exact ⟨.own ds, trivial, hi⟩
      · rw [List.getElem?_set_ne e] at h; exact ⟨s, hs, h⟩
    obtain ⟨xs', x1, g1⟩ := g j xs hx h1
    obtain ⟨ys', y1, g2⟩ := g k ys hy h2
    exact st.inj j k q xs' ys' x1 y1 g1 g2 h3 h4
/-- a new list becomes slot i's own -/
theorem St0.ownNew {i : Nat} {ds : List PyData} {vs : List V} (st : St0 K Tb H0 O0 O H σ ρ) (e : Ext H H') (n : H p = none) (hp : H' p = some (.lst vs)) (z : ds.length ≤ sizeLine) (r : RpAll K (hide (p :: O) H') vs ds) :
    St0 K Tb H0 O0 (p :: O) H' (σ.set i (some (.ref p))) (ρ.set i (some (.own ds))) := by
  have nO : p ∉ O := st.fresh n
  have n0 : H0 p = none := by
    cases q : H0 p with
    | none => rfl
    | some x => exact absurd n (st.ext.al p (by rw [q]; simp))
  have sub : Sub (hide O H) (hide (p :: O) H') := fun b o h t => by
    obtain ⟨h1, h2⟩ := hide_some h
    have hb : b ≠ p := ne_of_none h2 n
    rw [hide_out (by rw [List.mem_cons, not_or]; exact ⟨hb, h1⟩)]
    exact e.keep b o h2 t
  have nown : ∀ (j : Nat) (s : Sl), s.Hold → ρ[j]? = some (some s) → σ[j]? ≠ some (some (.ref p)) := fun j s hs h h2 => nO (st.hold hs h h2).1
  refine ⟨st.ext.trans e, fun b h => List.mem_cons_of_mem _ (st.sub b h), fun b h h2 => ?_, fun b h => ?_, fun P m => e.tab P (st.tab P m), fun b mb nb => ?_, by rw [List.length_set, List.length_set]; exact st.len, fun j s h => ?_, fun j k q xs ys hx hy h1 h2 h3 h4 => ?_⟩
  · rcases List.mem_cons.mp h with rfl | h
    · exact n0
    · exact st.new b h h2
  · rcases List.mem_cons.mp h with rfl | h
    · rw [hp]; simp
    · exact e.al b (st.al b h)
  · rcases List.mem_cons.mp mb with rfl | mb
    · exact ⟨_, hp, plain_lst vs⟩
    · obtain ⟨x, h, q⟩ := st.pln b mb nb
      exact ⟨x, e.keep b x h q.2, q⟩
  · by_cases ej : i = j
    · subst ej
      have il : i < ρ.length := by
        have := (List.getElem?_eq_some_iff.mp h).1
        rw [List.length_set] at this
        exact this
      rw [List.getElem?_set_self il] at h
      cases h
      exact ⟨_, by rw [List.getElem?_set_self (by rw [st.len]; exact il)], p, vs, rfl, List.mem_cons_self, fun m => nO (st.sub p m), hp, z, r⟩
    · rw [List.getElem?_set_ne ej] at h ⊢
      obtain ⟨v, h1, h2⟩ := st.slot j s h
      exact ⟨v, h1, h2.mv sub (fun _ q _ mq _ => ⟨List.mem_cons_of_mem _ mq, fun o hq n => e.keep q o hq n⟩) fun dd fs h => e.keep dd _ h fun _ z => by cases z⟩
  · have lt : ∀ (j : Nat) (s : Sl), i = j → (ρ.set i (some (.own ds)))[j]? = some (some s) → j < σ.length := fun j xs ej h => by
      have := (List.getElem?_eq_some_iff.mp h).1
      rw [List.length_set] at this
      rw [st.len]; exact this
    by_cases ej : i = j
    · by_cases ek : i = k
      · rw [← ej, ← ek]
      · subst ej
        rw [List.getElem?_set_self (lt _ _ rfl h1)] at h3
        cases h3
        rw [List.getElem?_set_ne ek] at h2 h4
        exact absurd h4 (nown k ys hy h2)
    · by_cases ek : i = k
      · subst ek
        rw [List.getElem?_set_self (lt _ _ rfl h2)] at h4
        cases h4
        rw [List.getElem?_set_ne ej] at h1 h3
        exact absurd h3 (nown j xs hx h1)
      · rw [List.getElem?_set_ne ej] at h1 h3
        rw [List.getElem?_set_ne ek] at h2 h4
        exact st.inj j k q xs ys hx hy h1 h2 h3 h4
/-- slot i's own list becomes a datum -/
theorem St0.frz {i : Nat} {ρ' : Rho} (st : St0 K Tb H0 O0 O H σ ρ) (h : PD.frz i ρ = some ρ') : ∃ O', St0 K Tb H0 O0 O' H σ ρ' := by
  unfold PD.frz at h
  split at h
  · rename_i ds hi
    cases h
    obtain ⟨v, h1, p, vs, rfl, m, m0, hp, z, r⟩ := st.slot i _ hi
    have il : i < ρ.length := (List.getElem?_eq_some_iff.mp hi).1
    have mem : ∀ b, b ∈ O.filter (fun b => decide (b ≠ p)) ↔ b ∈ O ∧ b ≠ p := fun b => by rw [List.mem_filter, decide_eq_true_eq]
    have sub : Sub (hide O H) (hide (O.filter fun b => decide (b ≠ p)) H) := Sub.less fun b hb => ((mem b).mp hb).1
    refine ⟨O.filter fun b => decide (b ≠ p), st.ext, fun b hb => (mem b).mpr ⟨st.sub b hb, fun e => m0 (by rw [← e]; exact hb)⟩, fun b hb => st.new b ((mem b).mp hb).1, fun b hb => st.al b ((mem b).mp hb).1, st.tab, fun b hb => st.pln b ((mem b).mp hb).1, by rw [List.length_set]; exact st.len, fun j s hs => ?_, fun j k q xs ys hx hy h2 h3 h4 h5 => ?_⟩
    · by_cases ej : i = j
      · subst ej
        rw [List.getElem?_set_self il] at hs
        cases hs
        refine ⟨_, h1, .lst (.of ?_) z (r.mono sub)⟩
        rw [hide_out (fun hb => ((mem p).mp hb).2 rfl)]
        exact hp
      · rw [List.getElem?_set_ne ej] at hs
        obtain ⟨v, g1, g2⟩ := st.slot j s hs
        exact ⟨v, g1, g2.mv sub (fun hx q ev mq _ => ⟨(mem q).mpr ⟨mq, fun e => ej (st.inj i j p (.own ds) s trivial hx hi hs h1 (by rw [g1, ev, e]))⟩, fun o hq _ => hq⟩) fun _ _ h => h⟩
    · by_cases ej : i = j
      · subst ej
        rw [List.getElem?_set_self il] at h2
        cases h2
        exact hx.elim
      · by_cases ek : i = k
        · subst ek
          rw [List.getElem?_set_self il] at h3
          cases h3
          exact hy.elim
        · rw [List.getElem?_set_ne ej] at h2
          rw [List.getElem?_set_ne ek] at h3
          exact st.inj j k q xs ys hx hy h2 h3 h4 h5
  · cases h
/-- slot i's own dict becomes a datum -/
theorem St0.frzD {i : Nat} {ρ' : Rho} (st : St0 K Tb H0 O0 O H σ ρ) (h : PD.frzD i ρ = some ρ') : ∃ O', St0 K Tb H0 O0 O' H σ ρ' := by
  unfold PD.frzD at h
  split at h
  · rename_i ks hi
    cases h
    obtain ⟨v, h1, p, ep, xs, rfl, m, m0, hp, rfl, r⟩ := st.slot i _ hi
    have il : i < ρ.length := (List.getElem?_eq_some_iff.mp hi).1
    have mem : ∀ b, b ∈ O.filter (fun b => decide (b ≠ p)) ↔ b ∈ O ∧ b ≠ p := fun b => by rw [List.mem_filter, decide_eq_true_eq]
    have sub : Sub (hide O H) (hide (O.filter fun b => decide (b ≠ p)) H) := Sub.less fun b hb => ((mem b).mp hb).1
    refine ⟨O.filter fun b => decide (b ≠ p), st.ext, fun b hb => (mem b).mpr ⟨st.sub b hb, fun e => m0 (by rw [← e]; exact hb)⟩, fun b hb => st.new b ((mem b).mp hb).1, fun b hb => st.al b ((mem b).mp hb).1, st.tab, fun b hb => st.pln b ((mem b).mp hb).1, by rw [List.length_set]; exact st.len, fun j s hs => ?_, fun j k q xs ys hx hy h2 h3 h4 h5 => ?_⟩
    · by_cases ej : i = j
      · subst ej
        rw [List.getElem?_set_self il] at hs
        cases hs
        refine ⟨_, h1, ?_⟩
        rw [List.map_map]
        refine .dct (ep := ep) ?_ fun x hx => sub.sqT (r x hx)
        rw [hide_out (fun hb => ((mem p).mp hb).2 rfl)]
        exact hp
      · rw [List.getElem?_set_ne ej] at hs
        obtain ⟨v, g1, g2⟩ := st.slot j s hs
        exact ⟨v, g1, g2.mv sub (fun hx q ev mq _ => ⟨(mem q).mpr ⟨mq, fun e => ej (st.inj i j p (.dct _) s trivial hx hi hs h1 (by rw [g1, ev, e]))⟩, fun o hq _ => hq⟩) fun _ _ h => h⟩
    · by_cases ej : i = j
      · subst ej
        rw [List.getElem?_set_self il] at h2
        cases h2
        exact hx.elim
      · by_cases ek : i = k
        · subst ek
          rw [List.getElem?_set_self il] at h3
          cases h3
          exact hy.elim
        · rw [List.getElem?_set_ne ej] at h2
          rw [List.getElem?_set_ne ek] at h3
          exact st.inj j k q xs ys hx hy h2 h3 h4 h5
  · cases h
/-- all own lists as data, for a moment -/
theorem St0.thaw (st : St0 K Tb H0 O0 O H σ ρ) : St0 K Tb H0 O0 O0 H σ (PD.thaw ρ) := by
  have sub : Sub (hide O H) (hide O0 H) := Sub.less st.sub
  have get : ∀ (i : Nat) (s : Sl), (PD.thaw ρ)[i]? = some (some s) → (∃ x, s = .d x ∧ ρ[i]? = some (some (.d x))) ∨ (∃ xs, s = .d (.list xs) ∧ ρ[i]? = some (some (.own xs))) ∨ (∃ ks, s = .d (.dict (ks.map fun k => (.tuple (k.map .int), .bool true))) ∧ ρ[i]? = some (some (.dct ks))) ∨ ∃ a c dd e, s = .exn a c dd e ∧ ρ[i]? = some (some (.exn a c dd e)) := fun i s h => by
    unfold PD.thaw at h
    rw [List.getElem?_map] at h
    cases e : ρ[i]? with
    | none => rw [e] at h; cases h
    | some o =>
      rw [e] at h
      cases o with
      | none => cases h
      | some s' =>
        cases s' with
        | d x => cases h; exact .inl ⟨x, rfl, rfl⟩
        | own xs => cases h; exact .inr (.inl ⟨xs, rfl, rfl⟩)
        | dct ks => cases h; exact .inr (.inr (.inl ⟨ks, rfl, rfl⟩))
        | dk ks => cases h
        | exn a c dd e => cases h; exact .inr (.inr (.inr ⟨_, _, _, _, rfl, rfl⟩))
  refine ⟨st.ext, fun _ h => h, fun b h h2 => absurd h h2, fun b h => st.al b (st.sub b h), st.tab, fun b h h2 => absurd h h2, by unfold PD.thaw; rw [List.length_map]; exact st.len, fun i s h => ?_, fun i j p xs ys hx _ h1 _ _ _ => ?_⟩
  · rcases get i s h with ⟨x, rfl, e⟩ | ⟨xs, rfl, e⟩ | ⟨ks, rfl, e⟩ | ⟨a, c, dd, x, rfl, e⟩
    · obtain ⟨v, h1, h2⟩ := st.slot i _ e
      exact ⟨v, h1, Rp.mono sub h2⟩
    · obtain ⟨v, h1, p, vs, rfl, m, m0, hp, z, r⟩ := st.slot i _ e
      exact ⟨_, h1, .lst (.of (by rw [hide_out m0]; exact hp)) z (r.mono sub)⟩
    · obtain ⟨v, h1, p, ep, xs, rfl, m, m0, hp, rfl, r⟩ := st.slot i _ e
      refine ⟨_, h1, ?_⟩
      rw [List.map_map]
      exact .dct (by rw [hide_out m0]; exact hp) fun x hx => sub.sqT (r x hx)
    · obtain ⟨v, h1, h2⟩ := st.slot i _ e
      exact ⟨v, h1, h2.mv sub (fun hx _ _ _ _ => hx.elim) fun _ _ h => h⟩
  · rcases get i _ h1 with ⟨x, rfl, _⟩ | ⟨xs', rfl, _⟩ | ⟨ks, rfl, _⟩ | ⟨a, c, dd, x, rfl, _⟩ <;> exact hx.elim
end
section
variable {X : Cx} {Tb : List Addr} {W : WX} {e c : Expr} {f : Dn} {fb : DnB} {g h : Sn} {pos : Pos} {st : Stmt} {sts : List Stmt}
theorem ft_thaw (hc : PT X c (tDT X.K Tb W fb)) : PT X c (tDT X.K Tb W (dThawB fb)) := hc.by fun σ H Q ⟨H0, O0, O, ρ, st, h⟩ => ⟨H0, O0, O0, thaw ρ, st.thaw, by
  unfold dThawB at h
  cases q : fb (thaw ρ) with
  | ok b => rw [q] at h; exact h
  | exc x => rw [q] at h; exact h.elim
  | bad => rw [q] at h; exact h.elim⟩
theorem fs_nil : PSs X [] (tS X.K Tb W gSkip) := pss_nil.by fun D σ H ⟨H0, O0, O, ρ, st, h⟩ => h O σ H st
theorem fs_cons (h1 : PS X st (tS X.K Tb W g)) (h2 : PSs X sts (tS X.K Tb W h)) : PSs X (st :: sts) (tS X.K Tb W (gSeq g h)) := (pss_cons h1 h2).by fun D σ H ⟨H0, O0, O, ρ, st, q⟩ => ⟨H0, O0, O, ρ, st, by
  unfold gSeq at q
  cases e : g ρ with
  | nx ρ' => rw [e] at q; exact fun O' σ' H' st' => ⟨H0, O0, O', ρ', st', q⟩
  | rt d => rw [e] at q; exact q
  | bk ρ' => rw [e] at q; exact q
  | ct ρ' => rw [e] at q; exact q
  | exc x ρ' => rw [e] at q; exact q
  | bad => rw [e] at q; exact q⟩
theorem fs_one (h1 : PS X st (tS X.K Tb W g)) : PSs X [st] (tS X.K Tb W g) := pss_one h1
theorem fs_frz (i : Nat) (h1 : PSs X sts (tS X.K Tb W g)) : PSs X sts (tS X.K Tb W (gFrz i g)) := h1.by fun D σ H ⟨H0, O0, O, ρ, st, q⟩ => by
  unfold gFrz at q
  cases e : frz i ρ with
  | none => rw [e] at q; exact q.elim
  | some ρ' =>
    rw [e] at q
    obtain ⟨O', st'⟩ := st.frz e
    exact ⟨H0, O0, O', ρ', st', q⟩
theorem fs_frzD (i : Nat) (h1 : PSs X sts (tS X.K Tb W g)) : PSs X sts (tS X.K Tb W (gFrzD i g)) := h1.by fun D σ H ⟨H0, O0, O, ρ, st, q⟩ => by
  unfold gFrzD at q
  cases e : frzD i ρ with
  | none => rw [e] at q; exact q.elim
  | some ρ' =>
    rw [e] at q
    obtain ⟨O', st'⟩ := st.frzD e
    exact ⟨H0, O0, O', ρ', st', q⟩
theorem fs_brk : PS X (.Break pos) (tS X.K Tb W gBrk) := ps_break.by fun D σ H ⟨H0, O0, O, ρ, st, h⟩ => h O σ H st
theorem fs_ret (he : PE X e (tD X.K Tb W f)) : PS X (.Return (some e) pos) (tS X.K Tb W (gRet f)) := (ps_ret he).by fun D σ H ⟨H0, O0, O, ρ, st, h⟩ => ⟨H0, O0, O, ρ, st, oR_post st h fun d v H1 e r k => k v H1 (st.ext.trans e) (r.mono (Sub.less st.sub))⟩
theorem fs_expr (he : PE X e (tD X.K Tb W f)) (hs : swapsWith e none pos.line X.env = pure false := by rfl) : PS X (.Expr e pos) (tS X.K Tb W (gExpr f)) := (ps_expr he hs).by fun D σ H ⟨H0, O0, O, ρ, st, h⟩ => ⟨H0, O0, O, ρ, st, oR_post st h fun d v H1 e r k => k O σ H1 (st.step e)⟩
theorem fs_if {a b : List Stmt} (hc : PT X c (tDT X.K Tb W fb)) (ha : PSs X a (tS X.K Tb W g)) (hb : PSs X b (tS X.K Tb W h)) : PS X (.If c a b pos) (tS X.K Tb W (gIf fb g h)) := (ps_if hc ha hb).by fun D σ H ⟨H0, O0, O, ρ, st, q⟩ => ⟨H0, O0, O, ρ, st, oR_post st q fun b b' H1 e r k => by
  cases (show b' = b from r)
  cases b with
  | true => exact ⟨H0, O0, O, ρ, st.step e, k⟩
  | false => exact ⟨H0, O0, O, ρ, st.step e, k⟩⟩
/-- name = e -/
theorem fs_set {i : Nat} {x : Str} {pos' : Pos} (hN : X.N.Nodup) (hi : X.N[i]? = some x) (hx : Loc X.env.scope x) (he : PE X e (tD X.K Tb W f)) (hs : swapsWith e (some (.Name x pos')) pos.line X.env = pure false := by rfl)
    (hf : X.fn x = true ∨ X.env.scope.names.lookup x = some .local := by first | exact .inl rfl | exact .inr rfl | assumption) : PS X (.Assign [.Name x pos'] e pos) (tS X.K Tb W (gSet f (.nm i))) := (ps_set hN hi hx he hs hf).by fun D σ H ⟨H0, O0, O, ρ, st, h⟩ => ⟨H0, O0, O, ρ, st, oR_post st h fun d v H1 e r k => by
  unfold Tg.set at k
  exact k O _ H1 ((st.step e).set r)⟩
/-- target = e -/
theorem fs_asg {tg : Expr} {t : Tg} (he : PE X e (tD X.K Tb W f)) (hg : PG X tg (tG X.K Tb t)) (hs : swapsWithSole [tg] e pos.line X.env = pure false := by rfl) (hw : swappedStores [tg] e X.env = pure none := by rfl)
    (h1 : (assignEach [tg] X.env).map (·.2) = [assign tg X.env] := by rfl) : PS X (.Assign [tg] e pos) (tS X.K Tb W (gSet f t)) := (ps_asg he hg hs hw h1).by fun D σ H ⟨H0, O0, O, ρ, st, h⟩ => ⟨H0, O0, O, ρ, st, oR_post st h fun d v H1 e r k => by
  cases q : t.set d ρ with
  | none => rw [q] at k; exact k.elim
  | some ρ' =>
    rw [q] at k
    exact ⟨H0, O0, O, ρ, ρ', d, st.step e, r, q, fun σ' st' _ => k O σ' H1 st'⟩⟩
/-- name = [.. for ..] -/
theorem fs_setLc {i : Nat} {y : Str} {py : Pos} {elt tg iter : Expr} {ifs : List Expr} {scope : Scope} {own : List (Str × Nat)} {spos : Pos} {fi : DnL} {t : Tg} {ft : DnB} {fe : Dn} (hc : X.calm = true) (hN : X.N.Nodup) (hy : X.N[i]? = some y) (hyl : X.env.scope.names.lookup y = some .local)
    (hsw : swapsWith (.ListComp elt [⟨tg, iter, ifs, 0⟩] scope pos) (some (.Name y py)) spos.line X.env = pure true) (hi : PI X tg iter (tI X.K Tb W fi)) (ok : BlkOk X.N X.env.scope scope own)
    (hg : ∀ (s : Shared) (H : Hp) (C : Addr) (cl : List (Str × Addr)) (fp : List Addr), PG (X.blk s H scope (compEnvC scope cl C X.env) fp) tg (tG X.K Tb t))
    (ht : ∀ (s : Shared) (H : Hp) (C : Addr) (cl : List (Str × Addr)) (fp : List Addr), PTs (X.blk s H scope (compEnvC scope cl C X.env) fp) ifs (tDT X.K Tb W0 ft))
    (he : ∀ (s : Shared) (H : Hp) (C : Addr) (cl : List (Str × Addr)) (fp : List Addr), PE (X.blk s H scope (compEnvC scope cl C X.env) fp) elt (tD X.K Tb W0 fe))
    (hv : ∀ i ∈ t.ixs, i ∈ own.map (·.2) := by decide) (hs : ∀ x, foldedSetIterable iter X.env x = pure x := by intro _; rfl) :
    PS X (.Assign [.Name y py] (.ListComp elt [⟨tg, iter, ifs, 0⟩] scope pos) spos) (tS X.K Tb W (gSet (dLc fi t ft fe (own.map (·.2))) (.nm i))) :=
  (ps_setLc hc hN hy hyl hsw hi ok hg ht he hs).by fun D σ H ⟨H0, O0, O, ρ, st, h⟩ => lc_walk (W := W) (Q := fun x H1 => gName i x σ H1 D.nx) hv ⟨H0, O0, O, ρ, st, oR_post st h fun d v H1 e r k => by
    unfold Tg.set at k
    exact k O _ H1 ((st.step e).set r)⟩
theorem fs_for {tg iter : Expr} {body : List Stmt} {fi : DnL} {t : Tg} (hp : PassesOwn (model X.prog X.w) X.A X.env X.xe) (hc : X.calm = true) (hi : PI X tg iter (tI X.K Tb W fi)) (hg : PG X tg (tG X.K Tb t)) (hb : PSs X body (tS X.K Tb W g))
    (hs : ∀ x, foldedSetIterable iter X.env x = pure x := by intro _; rfl) : PS X (.For tg iter body [] pos) (tS X.K Tb W (gFor fi t g)) := (ps_for hp hc hi hg hb hs).by fun D σ H ⟨H0, O0, O, ρ, st, h⟩ => ⟨H0, O0, O, ρ, st, oR_post st h fun ds J H1 e it k => by
  have st1 := (st.step e)
  have eB : Ext H0 (rebase O0 O H1) := st1.baseExt
  have k1 := PostS.rebase eB k
  have eG : Ext (hide O H1) (rebase O0 O H1) := by
    have out : ∀ b o, hide O H1 b = some o → rebase O0 O H1 b = some o := fun b o h => by
      obtain ⟨h1, h2⟩ := hide_some h
      unfold rebase
      rw [hide_out fun m => h1 (mem_rebase.mp m).1]
      exact h2
    refine ⟨fun b o h _ => out b o h, fun b t => t.mono (fun ps h => out b _ h) fun c q h => out c _ h, fun b h => ?_⟩
    cases q : hide O H1 b with
    | none => exact absurd q h
    | some x => rw [out b x q]; simp
  refine ⟨fun i m σ' H' => i ≤ ds.length ∧ m = ds.length - i ∧ ∃ O' ρ', St0 X.K Tb (rebase O0 O H1) O0 O' H' σ' ρ' ∧ PostS X.K Tb W (rebase O0 O H1) O0 (forGo t g (ds.drop i) ρ') D,
    ⟨ds.length, Nat.zero_le _, by simp, O, ρ, st1.rebase, k1⟩, ?_⟩
  rintro i m σ' H' ⟨hi, rfl, O', ρ', s1, k2⟩
  have eH : Ext (hide O H1) H' := eG.trans s1.ext
  have nG : ∀ b ∈ O', hide O H1 b = none := fun b hb => by
    by_cases h0 : b ∈ O0
    · exact hide_in (st1.sub b h0)
    · have q := s1.new b hb h0
      cases z : hide O H1 b with
      | none => rfl
      | some x =>
        obtain ⟨z1, z2⟩ := hide_some z
        unfold rebase at q
        rw [hide_out fun m => z1 (mem_rebase.mp m).1, z2] at q
        cases q
  by_cases hlt : i < ds.length
  · refine .inr ⟨it.go i H' eH hlt, fun σ2 H2 => i + 1 ≤ ds.length ∧ ∃ O' ρ', St0 X.K Tb (rebase O0 O H1) O0 O' H2 σ2 ρ' ∧ PostS X.K Tb W (rebase O0 O H1) O0 (forGo t g (ds.drop (i + 1)) ρ') D,
      fun σ2 H2 q => ⟨ds.length - (i + 1), by omega, q.1, rfl, q.2⟩, fun x H2 y => ?_⟩
    obtain ⟨e2, d, hd, rx⟩ := it.yld i H' O' x H2 eH nG s1.al hlt y
    have hdr : ds.drop i = d :: ds.drop (i + 1) := by
      obtain ⟨hl, hd'⟩ := List.getElem?_eq_some_iff.mp hd
      rw [List.drop_eq_getElem_cons hl, hd']
    rw [hdr] at k2
    unfold forGo at k2
    cases et : t.set d ρ' with
    | none => rw [et] at k2; exact k2.elim
    | some ρ1 =>
      rw [et] at k2
      refine ⟨_, O0, O', ρ', ρ1, d, s1.step e2, rx, et, fun σ3 s3 _ => ⟨_, O0, O', ρ1, s3, ?_⟩⟩
      cases eg : g ρ1 with
      | nx ρ2 => simp only [eg] at k2; exact fun O4 σ4 H4 s4 => ⟨hlt, O4, ρ2, s4, k2⟩
      | ct ρ2 => simp only [eg] at k2; exact fun O4 σ4 H4 s4 => ⟨hlt, O4, ρ2, s4, k2⟩
      | bk ρ2 => simp only [eg] at k2; exact k2
      | rt d => simp only [eg] at k2; exact k2
      | exc x ρ2 => simp only [eg] at k2; exact k2
      | bad => simp only [eg] at k2; exact k2
  · have ei : i = ds.length := by omega
    subst ei
    rw [List.drop_length] at k2
    exact .inl ⟨it.stop H' eH, k2 O' σ' H' s1⟩⟩
theorem fs_while {body : List Stmt} {fuel : Rho → Nat} (hp : PassesOwn (model X.prog X.w) X.A X.env X.xe) (hc : PT X c (tDT X.K Tb W fb)) (hb : PSs X body (tS X.K Tb W g)) : PS X (.While c body [] pos) (tS X.K Tb W (gWhile fb g fuel)) := (ps_while hp hc hb).by fun D σ H ⟨H0, O0, O, ρ, st, h⟩ => by
  refine ⟨fun m σ' H' => ∃ O' ρ', St0 X.K Tb H0 O0 O' H' σ' ρ' ∧ PostS X.K Tb W H0 O0 (whGo fb g m ρ') D, ⟨fuel ρ, O, ρ, st, h⟩, ?_⟩
  rintro m σ' H' ⟨O', ρ', s1, k⟩
  cases m with
  | zero => exact k.elim
  | succ m =>
    refine ⟨H0, O0, O', ρ', s1, oR_post s1 k fun b b' H1 e r k => ?_⟩
    cases (show b' = b from r)
    cases b with
    | false => exact k O' σ' H1 (s1.step e)
    | true =>
      refine ⟨fun σ2 H2 => ∃ O' ρ', St0 X.K Tb H0 O0 O' H2 σ2 ρ' ∧ PostS X.K Tb W H0 O0 (whGo fb g m ρ') D, fun σ2 H2 q => ⟨m, Nat.lt_succ_self _, q⟩, H0, O0, O', ρ', s1.step e, ?_⟩
      simp only [if_true] at k
      cases eg : g ρ' with
      | nx ρ2 => simp only [eg] at k; exact fun O4 σ4 H4 s4 => ⟨O4, ρ2, s4, k⟩
      | ct ρ2 => simp only [eg] at k; exact fun O4 σ4 H4 s4 => ⟨O4, ρ2, s4, k⟩
      | bk ρ2 => simp only [eg] at k; exact k
      | rt d => simp only [eg] at k; exact k
      | exc x ρ2 => simp only [eg] at k; exact k
      | bad => simp only [eg] at k; exact k
end
end PD
set_option Elab.async false
set_option linter.all false
set_option maxRecDepth 100000
set_option maxHeartbeats 1000000
namespace PD
open PySem PySem.Spec PyProof.Rows L2
/-- an expression whose value is a new list -/
def tN (K : PySem.W.Frag) (Tb : List Addr) (W : WX) (f : Dn) : TE := fun σ H Q => ∃ H0 O0 O ρ, St0 K Tb H0 O0 O H σ ρ ∧ match f ρ with
  | .ok (.list ds) => ∀ p vs H', Ext H H' → H p = none → H' p = some (.lst vs) → ds.length ≤ sizeLine → RpAll K (hide (p :: O) H') vs ds → Q (.ref p) H'
  | .exc e => AftX K O H e fun c d H => W c d σ H
  | _ => False
section
variable {K : PySem.W.Frag} {Tb : List Addr} {W : WX} {H0 H H' H1 : Hp} {O0 O : List Addr} {ρ : Rho} {σ : L2.St} {p : Addr} {D : Ends} {ds : List PyData} {xs : List V}
theorem RpAll.beside (al : Al O H) (n : H p = none) (r : RpAll K (hide O H) xs ds) {o : HO} : RpAll K (hide (p :: O) (upd H p o)) xs ds := r.mono fun b x h t => by
  obtain ⟨h1, h2⟩ := hide_some h
  have hb : b ≠ p := ne_of_none h2 n
  rw [hide_out (by rw [List.mem_cons, not_or]; exact ⟨hb, h1⟩), upd_ne hb]
  exact h2
end
section
variable {X : Cx} {Tb : List Addr} {W : WX} {e : Expr} {es : List Expr} {f : Dn} {gl : DnL} {pos p : Pos} {x : Str}
/-- f ρ is a list: what is wanted once the parts are known -/
theorem tN_of {K : PySem.W.Frag} {O : List Addr} {H : Hp} {σ : L2.St} {Q : VK} {α β : Type} {Rl : Hp → β → α → Prop} {x : R α} {u : α → R PyData} {Q1 : β → Hp → Prop}
    (h : match x >>= u with
      | .ok (.list ds) => ∀ p vs H', Ext H H' → H p = none → H' p = some (.lst vs) → ds.length ≤ sizeLine → RpAll K (hide (p :: O) H') vs ds → Q (.ref p) H'
      | .exc e => AftX K O H e fun c d H => W c d σ H
      | _ => False)
    (hu : ∀ a e, u a ≠ .exc e)
    (k : ∀ a b H1, Ext H H1 → Rl H1 b a → (∀ ds, u a = .ok (.list ds) → (∀ p vs H', Ext H1 H' → H1 p = none → H' p = some (.lst vs) → ds.length ≤ sizeLine → RpAll K (hide (p :: O) H') vs ds → Q (.ref p) H') → Q1 b H1)) (nb : ∀ a, (∃ ds, u a = .ok (.list ds)) ∨ (match u a with | .ok (.list _) => True | _ => False) → True := by intros; trivial) :
    Post K O Rl (fun c d H => W c d σ H) H x Q1 := by
  cases x with
  | exc e => exact h
  | bad => exact h.elim
  | ok a =>
    intro b H1 ex r
    have h' : match u a with
      | .ok (.list ds) => ∀ p vs H', Ext H H' → H p = none → H' p = some (.lst vs) → ds.length ≤ sizeLine → RpAll K (hide (p :: O) H') vs ds → Q (.ref p) H'
      | .exc e => AftX K O H e fun c d H => W c d σ H
      | _ => False := h
    cases hu2 : u a with
    | bad => rw [hu2] at h'; exact h'.elim
    | exc e => exact absurd hu2 (hu a e)
    | ok d =>
      rw [hu2] at h'
      cases d with
      | list ds =>
        refine k a b H1 ex r ds hu2 fun p vs H' e2 n hp z rr => h' p vs H' (ex.trans e2) ?_ hp z rr
        cases q : H p with
        | none => rfl
        | some o => exact absurd n (ex.al p (by rw [q]; simp))
      | _ => exact h'.elim
theorem fn_lst (h : PA X es (tDs X.K Tb W gl)) : PE X (.List es pos) (tN X.K Tb W (dLst gl)) := (pe_lst h).by fun σ H Q ⟨H0, O0, O, ρ, st, h⟩ => by
  refine ⟨H0, O0, O, ρ, st, tN_of (u := fun xs => if xs.length ≤ sizeLine then .ok (.list xs) else .bad) h (fun a e q => by split at q <;> cases q) fun ds vs H1 ex r ds' e k => ?_⟩
  split at e
  · rename_i z
    cases e
    exact ⟨by rw [r.length]; exact z, fun p hp => k p vs _ (Ext.new hp) hp upd_same z (r.beside (st.step ex).al hp)⟩
  · cases e
theorem fn_list (hg : Gl X "list") (hm : X.mg "list" = none) (ha : PA X (e :: es) (tDs X.K Tb W gl)) (he : starEach (e :: es) X.env = (false, eval e X.env) :: starEach es X.env := by rfl) (hpl : (backTo pos (starEach es X.env)).any (·.1) = false := by rfl) : PE X (.Call (.Name "list" p) (e :: es) [] pos) (tN X.K Tb W (dArg bList gl)) :=
  (pe_callTy call_list_of hg hm boot_list ha (by decide) (by decide) he hpl).by fun σ H Q ⟨H0, O0, O, ρ, st, h⟩ => by
    refine ⟨H0, O0, O, ρ, st, tN_of (u := bList) h (fun a e q => by unfold bList items at q; split at q <;> (try split at q) <;> cases q) fun ds vs H1 ex r ds' e k => ?_⟩
    have al := (st.step ex).al
    unfold bList items at e
    split at e
    · split at e
      · cases e
        cases r with
        | cons r1 r2 =>
          cases r2
          cases r1 with
          | lst h1 z1 a1 => exact ⟨_, _, rfl, .inl (Sub.unhide.sqL h1), fun l hl => k l _ _ (Ext.new hl) hl upd_same z1 (a1.beside al hl)⟩
      · cases e
        cases r with
        | cons r1 r2 =>
          cases r2
          cases r1 with
          | tup h1 z1 a1 => exact ⟨_, _, rfl, .inr (Sub.unhide.sqT h1), fun l hl => k l _ _ (Ext.new hl) hl upd_same z1 (a1.beside al hl)⟩
      · cases e
    · cases e
/-- the slot's name takes the new list as its own -/
theorem own_end {K : PySem.W.Frag} {H0 H : Hp} {O0 O : List Addr} {ρ : Rho} {σ : L2.St} {D : Ends} {i : Nat} (st : St0 K Tb H0 O0 O H σ ρ) (h : PostS K Tb W H0 O0 (gOwn f i ρ) D) : tN K Tb W f σ H fun x H1 => D.nx (σ.set i (some x)) H1 := by
  refine ⟨H0, O0, O, ρ, st, ?_⟩
  unfold gOwn at h
  cases e : f ρ with
  | bad => rw [e] at h; exact h.elim
  | exc x => rw [e] at h; exact fun c d H1 ex r => h O σ H1 c d (st.step ex) r
  | ok d =>
    rw [e] at h
    cases d with
    | list ds => exact fun p vs H' ex n hp z r => h _ _ H' (st.ownNew ex n hp z r)
    | _ => exact h.elim
theorem fs_own {i : Nat} {pos' : Pos} (hN : X.N.Nodup) (hi : X.N[i]? = some x) (hx : Loc X.env.scope x) (he : PE X e (tN X.K Tb W f)) (hs : swapsWith e (some (.Name x pos')) pos.line X.env = pure false := by rfl)
    (hf : X.fn x = true ∨ X.env.scope.names.lookup x = some .local := by first | exact .inl rfl | exact .inr rfl | assumption) : PS X (.Assign [.Name x pos'] e pos) (tS X.K Tb W (gOwn f i)) := (ps_set hN hi hx he hs hf).by fun D σ H ⟨H0, O0, O, ρ, st, h⟩ => own_end st h
/-- name = [.. for ..], the name the list's only owner -/
theorem lc_walkN {K : PySem.W.Frag} {t : Tg} {ft : DnB} {fe : Dn} {fi : DnL} {vs : List Nat} {σ : L2.St} {H : Hp} {Q : VK} (hv : ∀ i ∈ t.ixs, i ∈ vs) (h : tN K Tb W (dLc fi t ft fe vs) σ H Q) :
    tLc (tI K Tb W fi) (tG K Tb t) (tDT K Tb W0 ft) (tD K Tb W0 fe) vs σ H Q := by
  obtain ⟨H0, O0, O, ρ, st, h⟩ := h
  refine ⟨H0, O0, O, ρ, st, tN_of (x := fi ρ) (u := fun ds => nx (lcGo t ft fe (wipeR ρ vs) ds) fun ys => .ok (.list ys)) h (fun a e q => by cases q2 : lcGo t ft fe (wipeR ρ vs) a <;> rw [q2] at q <;> cases q) fun ds J H1 ex it ds' e k => ?_⟩
  obtain ⟨ys, q, e⟩ := nx_ok e
  cases e
  exact lc_turns hv (st.step ex) it q fun D acc H' e1 nD hD z ra => k D acc H' e1 nD hD z ra
theorem fn_lc {elt tg iter : Expr} {ifs : List Expr} {scope : Scope} {own : List (Str × Nat)} {fi : DnL} {t : Tg} {ft : DnB} {fe : Dn} (hc : X.calm = true) (hN : X.N.Nodup) (hi : PI X tg iter (tI X.K Tb W fi)) (ok : BlkOk X.N X.env.scope scope own)
    (hg : ∀ (s : Shared) (H : Hp) (C : Addr) (cl : List (Str × Addr)) (fp : List Addr), PG (X.blk s H scope (compEnvC scope cl C X.env) fp) tg (tG X.K Tb t))
    (ht : ∀ (s : Shared) (H : Hp) (C : Addr) (cl : List (Str × Addr)) (fp : List Addr), PTs (X.blk s H scope (compEnvC scope cl C X.env) fp) ifs (tDT X.K Tb W0 ft))
    (he : ∀ (s : Shared) (H : Hp) (C : Addr) (cl : List (Str × Addr)) (fp : List Addr), PE (X.blk s H scope (compEnvC scope cl C X.env) fp) elt (tD X.K Tb W0 fe))
    (hv : ∀ i ∈ t.ixs, i ∈ own.map (·.2) := by decide) (hs : ∀ x, foldedSetIterable iter X.env x = pure x := by intro _; rfl) : PE X (.ListComp elt [⟨tg, iter, ifs, 0⟩] scope pos) (tN X.K Tb W (dLc fi t ft fe (own.map (·.2)))) :=
  (pe_lc hc hN hi ok hg ht he hs).by fun σ H Q h => lc_walkN hv h
/-- the list at slot i, at the place of a method's receiver -/
theorem own_at {K : PySem.W.Frag} {H0 H : Hp} {O0 O : List Addr} {ρ : Rho} {σ : L2.St} {D : Ends} {i : Nat} {k : List PyData → Out} (st : St0 K Tb H0 O0 O H σ ρ) (h : PostS K Tb W H0 O0 (ownAt ρ i k) D) :
    ∃ ds p vs, ρ[i]? = some (some (.own ds)) ∧ σ[i]? = some (some (.ref p)) ∧ H p = some (.lst vs) ∧ ds.length ≤ sizeLine ∧ RpAll K (hide O H) vs ds ∧ PostS K Tb W H0 O0 (k ds) D := by
  unfold ownAt at h
  split at h
  · rename_i ds e
    obtain ⟨v, h1, p, vs, rfl, m, m0, hp, z, r⟩ := st.slot i _ e
    exact ⟨ds, p, vs, e, h1, hp, z, r, h⟩
  · exact h.elim
theorem fs_app {i : Nat} {apos npos cpos : Pos} (ho : X.N[i]? = some x) (hv : Vis X.env.scope x) (hd : (x == ("__debug__" : Str)) = false) (hcd : (x == ("__classdict__" : Str)) = false) (ha : PE X e (tD X.K Tb W f))
    (hse : starEach [e] X.env = (false, eval e X.env) :: starEach [] X.env) (hbase : attributeBase (.Name x npos) "append" X.env (eval (.Name x npos) X.env) = eval (.Name x npos) X.env)
    (hfew : ((backTo cpos (starEach [e] X.env)).all (fun x => !x.1) && (backToKw cpos (keywordEach [] X.env)).all (fun x => x.1.isSome)
      && decide (([e] : List Expr).length + ([] : List Keyword).length + (if ([] : List Keyword).isEmpty then 0 else 1) < 30)) = true)
    (hline : (apos.endLine == cpos.line) = true) (hplain : (backTo cpos (starEach [] X.env)).any (·.1) = false)
    (hs : swapsWith (.Call (.Attribute (.Name x npos) "append" apos) [e] [] cpos) none pos.line X.env = pure false) :
    PS X (.Expr (.Call (.Attribute (.Name x npos) "append" apos) [e] [] cpos) pos) (tS X.K Tb W (gApp i f)) :=
  (ps_expr (pe_bm PySem.F.plainAttrs_list PySem.F.slot_list_append PySem.F.type_list_append mt_append (pe_var ho hv hd hcd) (pa_cons ha pa_nil hse) hbase hfew hline hse hplain) hs).by fun D σ H ⟨H0, O0, O, ρ, st, h⟩ => by
    obtain ⟨ds, p, vs, e1, e2, hp, z, r, h⟩ := own_at st h
    refine ⟨.ref p, e2, .inl ⟨rfl, vs, .of hp⟩, H0, O0, O, ρ, st, oR_post st h fun d v H1 ex rv k => ?_⟩
    split at k
    · rename_i hl
      refine ⟨p, vs, v, rfl, rfl, ex.keep p _ hp (fun _ q => by cases q), by rw [r.length]; exact hl, k O σ _ ((st.step ex).ownSet e1 e2 ?_ ?_)⟩
      · rw [List.length_append]; simp; exact hl
      · exact (r.mono (Sub.hide ex.keep)).append (.one rv)
    · exact k.elim
end
def startR (n : Nat) (ds : List PyData) : Rho := ds.map (fun d => some (.d d)) ++ List.replicate (n - ds.length) none
def endR : Out → R PyData
  | .nx _ => .ok .none
  | .rt d => .ok d
  | .exc e _ => .exc e
  | _ => .bad
def runD (n p : Nat) (g : Sn) : List PyData → R PyData := fun ds => if ds.length = p then endR (g (startR n ds)) else .bad
def spD (K : PySem.W.Frag) (Tb : List Addr) (m : List PyData → R PyData) : Sp := fun vs H Q E => ∃ O ds, Al O H ∧ (∀ P ∈ Tb, TabC H P) ∧ RpAll K (hide O H) vs ds ∧ Post K O (RlD K O) E H (m ds) Q
def WE (E : XK) : WX := fun c d _ H => E c d H
theorem lets_of {X : Cx} {W : WX} (tk : L2N.Takes X W) (σ : L2.St) : PassesAt (L2N.CX X.prog X.w) X σ (L2.WE W σ) := L2N.passAt tk σ
theorem lets0 {X : Cx} (σ : L2.St) : PassesAt (L2N.CX X.prog X.w) X σ (L2.WE W0 σ) := fun _ _ _ _ _ _ h => by
  obtain ⟨_, _, _, _, _, _, _, _, _, _, _, _, z⟩ := h
  exact z.elim
section
variable {P : Program} {w : World} {K : PySem.W.Frag} {mg : Str → Option Value} {base : Heap} {Tb : List Addr}
/-- a def, by its body -/
theorem fn_okD {x qual : Str} {st : Stmt} {f : Addr} {fd : FuncData} {N ps : List Str} {k : Nat} {g : Sn} (F : Fun K x qual st f fd) (S : FnScope N ps (defScope st))
    (hb : ∀ (cdv : Value) (A : Around) (outer : List Env) (s : Shared) (H : Hp) (E : XK), Room k (A.deeper (envOfC qual (defScope st) s.heap.objs.size f cdv)) →
      PSs (cxOf (L2N.CX P w) P w K mg base N qual (defScope st) f cdv A outer s H E) (defBody st) (tS K Tb (WE E) g)) :
    FnOk P w K mg base (L2N.CX P w) (k + 1) f fd ps (spD K Tb (runD N.length ps.length g)) := by
  obtain ⟨oc, od, kV, doc, pm, an, cdv, ct, osl, rfl, lk, hcd⟩ := F.ex
  refine fn_of lk hcd S (fun vs H Q E h => ?_) fun A outer s H vs Q E hr h => ⟨_, hb cdv A outer s H E hr, ?_⟩
  · obtain ⟨O, ds, al, tb, r, h⟩ := h
    unfold runD at h
    split at h
    · rename_i e
      rw [r.length]; exact e
    · exact h.elim
  · obtain ⟨O, ds, al, tb, r, h⟩ := h
    unfold runD at h
    split at h
    · rename_i e
      have st := St0.init (N.length - ds.length) al tb r
      refine ⟨H, O, O, startR N.length ds, ?_, ?_⟩
      · unfold L2.start startR
        rw [r.length]
        exact st
      · cases q : g (startR N.length ds) with
        | nx ρ => rw [q] at h; exact fun O' σ' H' st' => h .non H' st'.ext .non
        | rt d => rw [q] at h; exact fun v H' e' r' => h v H' e' r'
        | exc x ρ => rw [q] at h; exact fun O' σ' H' c d st' ex => h c d H' st'.ext (by
            obtain ⟨h1, h2⟩ := ex
            refine ⟨h1, ?_⟩
            rcases h2 with h2 | ⟨dd, fs, h3, h4, h5, h6⟩
            · exact .inl h2
            · exact .inr ⟨dd, fs, h3, h4, h5, h6.mono (Sub.less st'.sub)⟩)
        | bk ρ => rw [q] at h; exact h.elim
        | ct ρ => rw [q] at h; exact h.elim
        | bad => rw [q] at h; exact h.elim
    · exact h.elim
end
section
variable {X : Cx} {Tb : List Addr} {W : WX} {k : Nat} {f : Addr} {fd : FuncData} {ps : List Str} {m : List PyData → R PyData} {x : Str} {p pos : Pos} {e : Expr} {es : List Expr} {gl : DnL}
theorem fd_call (F : FnOk X.prog X.w X.K X.mg X.base (L2N.CX X.prog X.w) k f fd ps (spD X.K Tb m)) (hr : Room k X.A) (hg : Gl X x) (hm : X.mg x = some (.ref f)) (hk : PySem.W.keepIn X.K (.ref f) = true) (hb : Binds X.K fd ps []) (hx : ∀ σ, PassesAt (L2N.CX X.prog X.w) X σ (L2.WE W σ))
    (ha : PA X (e :: es) (tDs X.K Tb W gl)) (hdb : (x == ("__debug__" : Str)) = false := by decide) (he : starEach (e :: es) X.env = (false, eval e X.env) :: starEach es X.env := by rfl) (hpl : (backTo pos (starEach es X.env)).any (·.1) = false := by rfl) :
    PE X (.Call (.Name x p) (e :: es) [] pos) (tD X.K Tb W (dArg m gl)) := (pe_callS F hr hg hm hk hb hx ha hdb he hpl).by fun σ H Q ⟨H0, O0, O, ρ, st, h⟩ => ⟨H0, O0, O, ρ, st, by
  refine Post.then h fun ds vs H1 ex r k => ?_
  exact ⟨O, ds, (st.step ex).al, (st.step ex).tab, r, k⟩⟩
end
end PD
set_option Elab.async false
set_option linter.all false
set_option maxRecDepth 100000
set_option maxHeartbeats 1000000
namespace PySem.W
open PySem PySem.Calls PySem.SeqAt PyProof.Rows
section
variable {prog : Program} {w : World} {A : Around} {s : Shared}
/-- does a tuple have a first item -/
def hasFst : PyData → Bool
  | .tuple (_ :: _) => true
  | _ => false
theorem call_tuple_ltP {E : Value → Shared → Prop} {Q : Value → Shared → Prop} {l b : Addr} {items items2 : Array Value} {e r : Nat → Bool} (hl : s.heap.IsTuple l items) (hb : s.heap.IsTuple b items2)
    (he : ∀ j (h1 : j < items.size) (h2 : j < items2.size), EqAt A.in1 s items[j] items2[j] (e j)) (hr : ∀ j (h1 : j < items.size) (h2 : j < items2.size), e j = false → RcLt A.in1 s items[j] items2[j] (r j))
    (h : Q (.bool (firstLt e r (decide (items.size < items2.size)) (List.range (min items.size items2.size)))) s) : wpAny (model prog w) A (call (.builtin "tuple.__lt__") [.ref l, .ref b]) Q E s := by
  obtain ⟨⟨c1, d1, x1, l1⟩, ho, hc, n, hd⟩ := id hl
  obtain ⟨⟨c2, d2, x2, l2⟩, ho2, hc2, n2, hd2⟩ := id hb
  simp only at hc hd hc2 hd2
  subst hc hd hc2 hd2
  exact call_meets F.slot_tuple_lt ⟨_, ho, rfl⟩ F.entry_tuple_lt (F.args_tuple_lt_2 _ _) (tuple_ltAt l b items items2 n n2 d1 d2 l1 l2 e r) ⟨ho, ho2, he, hr, h⟩
theorem oneLt_tup {f : Bool} {xs ys : List PyData} {a b : Value} {as bs : List Addr} {Q : Bool → Shared → Prop} {E : Value → Shared → Prop} (ra : Reads s.heap a (.tuple xs) as) (rb : Reads s.heap b (.tuple ys) bs) (hal : alikeAll xs ys = true)
    (hu : A.units + min (PyData.tuple xs).depth (PyData.tuple ys).depth < cLine) (hq : Q (dataLt (.tuple xs) (.tuple ys)) s) : wpAny (model prog w) A (oneLt' f a b) Q E s := by
  cases f with
  | false => exact oneLt_alike (fun h => by cases h) ra rb (by simpa [alike] using hal) (fun h => by cases h) hu hq
  | true =>
    cases ra with
    | @tuple l o vs n _ as1 h1 h2 h3 h4 =>
      cases rb with
      | @tuple l' o' vs' n' _ bs1 k1 k2 k3 k4 =>
        have n1 : vs.size = xs.length := by simpa using SeqAt.ReadsAll.length _ _ _ h4
        have n2 : vs'.size = ys.length := by simpa using SeqAt.ReadsAll.length _ _ _ k4
        rw [dataLt_tuple, ← firstLt_toks xs ys hal, ← n1, ← n2] at hq
        rw [oneLt'_eq]
        simp only [if_true]
        refine wpAny_bind (wpAny_cRoomFor (SeqAt.room_here hu) ?_)
        refine wpAny_bind (wpAny_callSpecialIfBound?_slot (T := "tuple") ⟨_, h1, h2⟩ F.slot_tuple_lt (call_tuple_ltP (e := pairEq xs ys) (r := fun j => dataLt (xs.getD j .none) (ys.getD j .none)) ⟨_, h1, h2, _, h3⟩ ⟨_, k1, k2, _, k3⟩ (fun j j1 j2 => ?_) (fun j j1 j2 hj => ?_) ?_))
        · have := eqAt_alikeAll xs ys A.in1 s vs.toList vs'.toList _ _ h4 k4 hal (SeqAt.room_in hu) j (by simpa using j1) (by simpa using j2)
          simpa using this
        · have := rcLt_alikeAll xs ys A.in1 s vs.toList vs'.toList _ _ h4 k4 hal (SeqAt.room_in hu) j (by simpa using j1) (by simpa using j2) hj
          simpa using this
        · exact wpAny_truthy_bool hq
theorem mapM_firsts {E : Value → Shared → Prop} : ∀ {vs : List Value} {ds : List PyData} {Q : List (Option Value) → Shared → Prop}, EachIs (fun v d => ∃ as, Reads s.heap v d as) vs ds → (∀ d ∈ ds, ∃ xs, d = .tuple xs) →
    (∀ rs : List (Option Value), rs.map (·.isSome) = ds.map hasFst → Q rs s) → wpAny (model prog w) A (vs.mapM firstOfTuple') Q E s
  | _, _, Q, .nil, _, h => by rw [List.mapM_nil]; exact wpAny_pure (h [] rfl)
  | _, _, Q, .cons (b := d) ⟨as, r⟩ t, ht, h => by
    rw [List.mapM_cons]
    obtain ⟨xs, rfl⟩ := ht d (List.mem_cons_self ..)
    cases r with
    | @tuple a o vs n _ _ ho hc hd hr =>
      refine wpAny_bind ?_
      rw [kas_first_eq]
      refine wpAny_bind (wpAny_typeOf_ref ho ?_)
      rw [hc, if_neg (by decide)]
      refine wpAny_bind (wpAny_listItems (prog := prog) (w := w) ho hd (wpAny_pure ?_))
      refine (wpAny_bind (mapM_firsts t (fun d hd => ht d (List.mem_cons_of_mem _ hd)) fun rs e => wpAny_pure (h _ ?_)))
      rw [List.map_cons, List.map_cons, e]
      congr 1
      have hl := SeqAt.ReadsAll.length _ _ _ hr
      cases xs with
      | nil =>
        have : vs.size = 0 := by simpa using hl
        simp [hasFst, this]
      | cons x xs =>
        have : 0 < vs.size := by simp at hl; omega
        simp [hasFst, this]
/-- tuples, some of them empty -/
theorem SortsAt.tuples {vs : List Value} {ds : List PyData} (e : EachIs (fun v d => ∃ as, Reads s.heap v d as) vs ds) (hal : AllAlike ds) (ht : ∀ d ∈ ds, ∃ xs, d = .tuple xs) (hu : ∀ d, d ∈ ds → A.units + d.depth < cLine) : SortsAt prog w A s (dataKind s.heap ds) vs := by
  by_cases hne : ∀ d ∈ ds, hasFst d = true
  · refine SortsAt.data e hal (.inl fun d hd => ?_) hu
    obtain ⟨xs, rfl⟩ := ht d hd
    have q := hne _ hd
    cases xs with
    | nil => cases q
    | cons x r => exact ⟨x, r, rfl⟩
  · refine ⟨fun v hv => ?_, ?_⟩
    · obtain ⟨d, hd, as, r⟩ := e.left v hv
      exact ⟨_, dataKind_some hal hd r⟩
    · have lt : ∀ f : Bool, ∀ (E : Value → Shared → Prop) (x y : Value) (a b : (dataKind s.heap ds).α) {Q : Bool → Shared → Prop}, (dataKind s.heap ds).keyOf x = some a → (dataKind s.heap ds).keyOf y = some b → Q ((dataKind s.heap ds).blt a b) s → wpAny (model prog w) A (oneLt' f x y) Q E s := by
        intro f E x y a b Q ha hb hq
        obtain ⟨d, as, hd, ra, rfl⟩ := dataKind_inv ha
        obtain ⟨d', as', hd', rb, rfl⟩ := dataKind_inv hb
        have hdd := hal d hd d' hd'
        have hroom : A.units + min d.depth d'.depth < cLine := Nat.lt_of_le_of_lt (Nat.add_le_add_left (Nat.min_le_left _ _) _) (hu d hd)
        obtain ⟨xs, rfl⟩ := ht d hd
        obtain ⟨ys, rfl⟩ := ht d' hd'
        exact oneLt_tup ra rb (by simpa [alike] using hdd) hroom hq
      have some0 : ∀ rs : List (Option Value), rs.map (·.isSome) = ds.map hasFst → ¬ (rs.toArray.all (·.isSome)) = true := fun rs er q => by
        apply hne
        intro d hd
        have q' : ∀ r ∈ rs, r.isSome = true := by simpa using q
        have m : hasFst d ∈ ds.map hasFst := List.mem_map.mpr ⟨d, hd, rfl⟩
        rw [← er] at m
        obtain ⟨r, hr, er2⟩ := List.mem_map.mp m
        rw [← er2]
        exact q' r hr
      cases ds with
      | nil => exact absurd (fun d hd => absurd hd (by simp)) hne
      | cons d0 r0 =>
        cases h0 : hasFst d0 with
        | true =>
          refine ⟨general', fun E x y a b Q ha hb hq => lt false E x y a b ha hb hq, fun h2 E Q hq => ?_⟩
          rw [keyKind'_eq, List.mapM_toArray, map_eq_pure_bind]
          refine wpAny_bind (wpAny_bind (mapM_firsts e ht fun rs er => wpAny_pure ?_))
          rw [if_neg (some0 rs er), if_pos ?_]
          · exact wpAny_pure hq
          · cases rs with
            | nil => cases er
            | cons r rr =>
              have : r.isSome = true := (List.cons.inj er).1.trans h0
              simpa using this
        | false =>
          refine ⟨oneType', fun E x y a b Q ha hb hq => lt true E x y a b ha hb hq, fun h2 E Q hq => ?_⟩
          rw [keyKind'_eq, List.mapM_toArray, map_eq_pure_bind]
          refine wpAny_bind (wpAny_bind (mapM_firsts e ht fun rs er => wpAny_pure ?_))
          rw [if_neg (some0 rs er), if_neg ?_]
          · rw [oneTypeOnly'_eq, List.mapM_toArray, map_eq_pure_bind]
            have hT : ∀ v ∈ vs, Looks (model prog w) s.heap (typeOf v) (Value.type "tuple") := fun v hv => by
              obtain ⟨d, hd, as, r⟩ := e.left v hv
              obtain ⟨xs, rfl⟩ := ht d hd
              exact looks_reads r
            cases vs with
            | nil => exact absurd h2 (by simp)
            | cons v1 vr =>
              refine wpAny_bind (wpAny_bind (wpAny_bind (kas_mapM (r := Value.type "tuple") _ (fun v hv Q' hq => (hT v hv).here hq) (wpAny_pure ?_))))
              have hall : ((List.map (fun _ => Value.type "tuple") (v1 :: vr)).toArray.all fun x => x == Value.type "tuple") = true := by
                simp only [List.all_toArray, List.all_map, List.all_eq_true]
                intro _ _
                exact beq_self_eq_true _
              have hz : (List.map (fun _ => Value.type "tuple") (v1 :: vr)).toArray[0]? = some (Value.type "tuple") := by simp
              rw [hz]
              simp only [hall, if_true]
              exact wpAny_pure (wpAny_pure hq)
          · cases rs with
            | nil => simp
            | cons r rr =>
              have : r.isSome = false := (List.cons.inj er).1.trans h0
              simpa using this
end
end PySem.W
namespace PD
open PySem PySem.Spec PyProof.Rows L2
section
variable {prog : Program} {w : World} {A : Around} {E : Value → Shared → Prop} {s : Shared}
theorem gather_tup {l : Addr} {vs : List Value} {Q : List Value → Shared → Prop} (hl : IsTup s.heap l vs.toArray)
    (h : Q vs { s with heap := (s.heap.push (seqObj "list" #[] 0)).update s.heap.objs.size (Obj.mapSeq (· ++ vs.toArray)) }) (hsz : vs.length ≤ sizeLine) :
    wpAny (model prog w) A (collect (.ref l)) Q E s := by
  obtain ⟨o, ho, hc, n, hd⟩ := id hl
  unfold collect
  refine wpAny_bind (wpAny_runValue (codeAny_builtin entry_proto_collect' ?_))
  show wpAny _ _ (do again (.builtin "list.__iadd__" ⟨[← newList [], .ref l], []⟩)) _ _ s
  refine wpAny_bind (wpAny_newList (wpAny_pure ⟨Code.quiet_builtin _ (by decide +kernel), codeAny_builtin entry_list_iadd' ?_⟩))
  show wpAny _ _ (Builtin.List.listExtendWith (.ref s.heap.objs.size) (.ref l) (.ref s.heap.objs.size)) _ _ { s with heap := s.heap.push (seqObj "list" #[] 0) }
  unfold Builtin.List.listExtendWith
  have ho' : (s.heap.push (seqObj "list" #[] 0)).get? l = some o := Heap.get?_push_of_some _ ho
  refine wpAny_bind (wpAny_typeOf (T := "tuple") ⟨o, ho', hc⟩ ?_)
  have ht : (Value.type "tuple" == Value.type "tuple") = true := by rfl
  rw [if_pos (by rw [ht]; simp)]
  refine wpAny_bind (listItems_at ho' hd ?_)
  refine wpAny_bind (listItems_at (xs := #[]) (n := 0) (Heap.get?_push_size _ rfl) rfl ?_)
  rw [if_neg (by simp)]
  refine wpAny_bind (listUpdate_at (xs := #[]) (n := 0) (Heap.get?_push_size _ rfl) rfl ?_ (Nat.zero_le _) (by show (#[] ++ vs.toArray).size ≤ sizeLine + 1; simp only [Array.size_append, List.size_toArray, List.length_nil]; omega))
  refine wpAny_pure ?_
  show wpAny (model prog w) A (do
      let o ← load s.heap.objs.size
      match o.data with
      | .seq xs _ => pure xs.toList
      | _ => unsupported "internal:collect") Q E { s with heap := (s.heap.push (seqObj "list" #[] 0)).update s.heap.objs.size (Obj.mapSeq (· ++ vs.toArray)) }
  refine wpAny_bind (wpAny_load (get?_update_seq (Heap.get?_push_size _ rfl) _) ?_)
  show wpAny _ _ (pure ((#[] : Array Value) ++ vs.toArray).toList) Q E _
  rw [show ((#[] : Array Value) ++ vs.toArray).toList = vs by simp]
  exact wpAny_pure h
theorem sorted_tup {κ : PyProof.Rows.KeyKind} {l : Addr} {vs : List Value} {Q : Value → Shared → Prop} (hl : IsTup s.heap l vs.toArray) (S : PySem.W.SortsAt prog w A.in1.in1 { s with heap := PySem.W.sortingHeap (PySem.W.copyHeap s.heap vs) (s.heap.objs.size + 1) vs } κ vs) (hL : vs.length ≤ sizeLine)
    (h : Q (.ref (s.heap.objs.size + 1)) { s with heap := sortedAll s.heap vs (PySem.W.sortVals κ false vs vs).toArray }) : wpAny (model prog w) A (call (.builtin "sorted") [.ref l]) Q E s := by
  refine call_function_entry_kw kind_sorted plain_sorted entry_sorted (args_sorted1 _) ?_
  unfold Builtin.«sorted»
  refine wpAny_bind (m := checkCount "sorted" 1 1 _) (wpAny_pure ?_)
  refine wpAny_bind (gather_tup hl ?_ hL)
  refine wpAny_bind (wpAny_newList ?_ hL)
  have hsz : ((s.heap.push (seqObj "list" #[] 0)).update s.heap.objs.size (Obj.mapSeq (· ++ vs.toArray))).objs.size = s.heap.objs.size + 1 := by
    rw [Heap.size_update]; exact Heap.size_push ..
  show wpAny _ _ _ _ _ { s with heap := PySem.W.copyHeap s.heap vs }
  rw [hsz]
  refine wpAny_bind (wpAny_holding (wpAny_call_entry_kw slot_list_sort ⟨_, PySem.W.copyHeap_at s.heap vs, rfl⟩ entry_list_sort ?body (args_list_sort _)))
  case body =>
    show wpAny (model prog w) A.in1.in1 (Builtin.«list.sort» ⟨[.ref (s.heap.objs.size + 1)], []⟩) _ _ _
    refine PySem.W.list_sort_vals (s := { s with heap := PySem.W.copyHeap s.heap vs }) (PySem.W.copyHeap_at s.heap vs) S hL ?_
    exact ⟨_, rfl, wpAny_pure ⟨_, rfl, h⟩⟩
end
def allTup (ds : List PyData) : Bool := ds.all fun d => match d with | .tuple _ => true | _ => false
def allNot (ds : List PyData) : Bool := ds.all fun d => match d with | .tuple _ => false | .none => false | _ => true
def allAlike (ds : List PyData) : Bool := ds.all fun d => ds.all fun e => PySem.W.alike d e
def okSort (ds : List PyData) : Bool := allAlike ds && (allTup ds || allNot ds) && ds.all fun d => decide (d.depth ≤ 60)
def sortD (ds : List PyData) : List PyData := ds.mergeSort (PySem.W.dataLe false id)
def bSorted : List PyData → R PyData
  | [.list xs] => if okSort xs = true then .ok (.list (sortD xs)) else .bad
  | [.tuple xs] => if okSort xs = true then .ok (.list (sortD xs)) else .bad
  | _ => .bad
mutual
theorem nod_of_alike : ∀ {d : PyData}, PySem.W.alike d d = true → nod d = true
  | .none, _ => rfl
  | .bool _, _ => rfl
  | .int _, _ => rfl
  | .str _, _ => rfl
  | .list xs, h => by
    rw [PySem.W.alike] at h
    exact nodAll_of_alike (xs := xs) h
  | .tuple xs, h => by
    rw [PySem.W.alike] at h
    exact nodAll_of_alike (xs := xs) h
  | .dict _, h => by simp [PySem.W.alike] at h
theorem nodAll_of_alike : ∀ {xs : List PyData}, PySem.W.alikeAll xs xs = true → nodAll xs = true
  | [], _ => rfl
  | x :: xs, h => by
    rw [PySem.W.alikeAll, Bool.and_eq_true] at h
    show (nod x && nodAll xs) = true
    rw [Bool.and_eq_true]
    exact ⟨nod_of_alike h.1, nodAll_of_alike h.2⟩
end
section
variable {X : Cx} {K : PySem.W.Frag}
theorem rpAll_reads {pins : List (Addr × Obj)} {σ : L2.St} {H : Hp} {s : Shared} {G : Hp} (I : Inv X pins σ H s) (sub : Sub G H) : ∀ {xs : List V} {ds : List PyData} {us : List Value}, RpAll X.K G xs ds → Vals xs us → (∀ d ∈ ds, nod d = true) → PySem.W.EachIs (fun v d => ∃ as, Reads s.heap v d as) us ds
  | _, _, _, .nil, .nil, _ => .nil
  | _, _, _, .cons r t, .cons q u, h => .cons (Dp.reads I _ _ _ ((r.mono sub).dp (h _ List.mem_cons_self)) q) (rpAll_reads I sub t u fun d hd => h d (List.mem_cons_of_mem _ hd))
theorem rpAll_each {G : Hp} : ∀ {xs : List V} {ds : List PyData} {us : List Value}, RpAll K G xs ds → Vals xs us → PySem.W.EachIs (fun u d => ∃ v, RelV v u ∧ Rp K G v d) us ds
  | _, _, _, .nil, .nil => .nil
  | _, _, _, .cons r t, .cons q u => .cons ⟨_, q, r⟩ (rpAll_each t u)
theorem each_rpAll {G : Hp} : ∀ {us : List Value} {ds : List PyData}, PySem.W.EachIs (fun u d => ∃ v, RelV v u ∧ Rp K G v d) us ds → ∃ xs, Vals xs us ∧ RpAll K G xs ds
  | _, _, .nil => ⟨[], .nil, .nil⟩
  | _, _, .cons ⟨v, q, r⟩ t => by
    obtain ⟨xs, h1, h2⟩ := each_rpAll t
    exact ⟨v :: xs, .cons q h1, .cons r h2⟩
def rSortD (K : PySem.W.Frag) : List V → Hp → VK → Prop := fun vs H Q => ∃ (G : Hp) (a : Addr) (xs : List V) (ds : List PyData), vs = [V.ref a] ∧ Sub G H ∧ (SqL K H a xs ∨ SqT K H a xs) ∧ RpAll K G xs ds ∧ okSort ds = true ∧
  ∀ p ys, H p = none → ys.length = xs.length → RpAll K G ys (sortD ds) → Q (.ref p) (upd H p (.lst ys))
theorem okSort_of {ds : List PyData} (h : okSort ds = true) : PySem.W.AllAlike ds ∧ ((∀ d ∈ ds, ∃ xs, d = .tuple xs) ∨ ∀ d ∈ ds, d ≠ .none ∧ ∀ xs, d ≠ .tuple xs) ∧ ∀ d ∈ ds, d.depth ≤ 60 := by
  unfold okSort at h
  rw [Bool.and_eq_true, Bool.and_eq_true, Bool.or_eq_true] at h
  obtain ⟨⟨h1, h2⟩, h3⟩ := h
  refine ⟨fun d hd e he => ?_, ?_, fun d hd => ?_⟩
  · unfold allAlike at h1
    rw [List.all_eq_true] at h1
    have := h1 d hd
    rw [List.all_eq_true] at this
    exact this e he
  · rcases h2 with h2 | h2
    · refine .inl fun d hd => ?_
      unfold allTup at h2
      rw [List.all_eq_true] at h2
      have := h2 d hd
      cases d <;> first | exact ⟨_, rfl⟩ | cases this
    · refine .inr fun d hd => ?_
      unfold allNot at h2
      rw [List.all_eq_true] at h2
      have := h2 d hd
      cases d <;> first | exact absurd this Bool.false_ne_true | exact ⟨by simp, by simp⟩
  · rw [List.all_eq_true] at h3
    exact of_decide_eq_true (h3 d hd)
theorem cr_sortD (hu : X.A.units + 64 < cLine) : CallR X (.builtin "sorted") (rSortD X.K) := by
  intro pins s σ H vs us Q I r h
  obtain ⟨G, a, xs, ds, rfl, sub, hs, ra, ok, q⟩ := h
  obtain ⟨al, kind, dep⟩ := okSort_of ok
  obtain ⟨its, rv, hl, hz⟩ : ∃ its : List Value, Vals xs its ∧ (s.heap.IsList a its.toArray ∨ IsTup s.heap a its.toArray) ∧ xs.length ≤ sizeLine := by
    rcases hs with hs | hs
    · obtain ⟨its, rv, hl, hz⟩ := I.list hs
      exact ⟨its, rv, .inl hl.isList, hz⟩
    · obtain ⟨its, rv, hl, hz⟩ := I.tuple hs
      exact ⟨its, rv, .inr hl, hz⟩
  rw [Vals.ref1 r]
  have er := rpAll_reads I sub ra rv fun d hd => nod_of_alike (al d hd d hd)
  have ev := rpAll_each ra rv
  have er' : PySem.W.EachIs (fun v d => ∃ as, Reads (PySem.W.sortingHeap (PySem.W.copyHeap s.heap its) (s.heap.objs.size + 1) its) v d as) its ds := er.mono fun _ _ ⟨as, r⟩ => ⟨as, PyProof.Rows.Reads.keeps (fun _ _ => PySem.W.sorting_copy_old) r⟩
  have hlen := rv.length
  have hu2 : ∀ d, d ∈ ds → X.A.in1.in1.units + d.depth < cLine := fun d hd => by
    have h1 := dep d hd
    show X.A.units + 1 + 1 + d.depth < cLine
    omega
  have S : PySem.W.SortsAt X.prog X.w X.A.in1.in1 { s with heap := PySem.W.sortingHeap (PySem.W.copyHeap s.heap its) (s.heap.objs.size + 1) its } (PySem.W.dataKind (PySem.W.sortingHeap (PySem.W.copyHeap s.heap its) (s.heap.objs.size + 1) its) ds) its := by
    rcases kind with k | k
    · exact PySem.W.SortsAt.tuples (s := { s with heap := PySem.W.sortingHeap (PySem.W.copyHeap s.heap its) (s.heap.objs.size + 1) its }) er' al k hu2
    · exact PySem.W.SortsAt.data (s := { s with heap := PySem.W.sortingHeap (PySem.W.copyHeap s.heap its) (s.heap.objs.size + 1) its }) er' al (.inr k) hu2
  refine (hl.elim (fun hl h => PySem.W.sorted_vals hl S (by rw [← hlen]; exact hz) h) (fun hl h => sorted_tup hl S (by rw [← hlen]; exact hz) h) : (_ → wpAny _ _ _ _ _ _)) ?_
  have eo := PySem.W.sortVals_data (h' := PySem.W.sortingHeap (PySem.W.copyHeap s.heap its) (s.heap.objs.size + 1) its) (enc := id) false ev (er'.mono fun _ _ h => h) (by rw [List.map_id]; exact al)
  rw [List.map_id] at eo
  obtain ⟨ys, hy1, hy2⟩ := each_rpAll eo
  obtain ⟨ep, he⟩ := PyProof.Rows.sortedAll_at s.heap its (PySem.W.sortVals (PySem.W.dataKind (PySem.W.sortingHeap (PySem.W.copyHeap s.heap its) (s.heap.objs.size + 1) its) ds) false its its).toArray
  have hyl : ys.length = xs.length := by
    rw [hy2.length, ra.length]
    exact List.length_mergeSort ds
  exact ⟨.ref _, upd H (s.heap.objs.size + 1) (.lst ys), I.laid (t' := s.toks) (fun _ _ => PyProof.Rows.sortedAll_old) (Nat.le_succ _) ⟨by rw [hyl]; exact hz, _, ep, hy1, he⟩, rfl, q _ ys (I.hok.fresh (Nat.le_succ _)) hyl hy2⟩
theorem ok_sorted : OkL K (rSortD K) bSorted := by
  intro O H Wx vs ds Q al r h
  unfold bSorted at h
  split at h
  · split at h
    · rename_i xs ok
      cases r with
      | cons r1 r2 =>
        cases r2
        cases r1 with
        | lst h1 z1 a1 =>
          refine ⟨hide O H, _, _, _, rfl, Sub.unhide, .inl (Sub.unhide.sqL h1), a1, ok, fun p ys hp hy ry => Post.newLst al h ?_ ry p hp⟩
          have : (sortD xs).length = xs.length := List.length_mergeSort xs
          rw [this]; exact z1
    · exact h.elim
  · split at h
    · rename_i xs ok
      cases r with
      | cons r1 r2 =>
        cases r2
        cases r1 with
        | tup h1 z1 a1 =>
          refine ⟨hide O H, _, _, _, rfl, Sub.unhide, .inr (Sub.unhide.sqT h1), a1, ok, fun p ys hp hy ry => Post.newLst al h ?_ ry p hp⟩
          have : (sortD xs).length = xs.length := List.length_mergeSort xs
          rw [this]; exact z1
    · exact h.elim
  · exact h.elim
end
end PD
set_option Elab.async false
set_option linter.all false
set_option maxRecDepth 100000
set_option maxHeartbeats 1000000
namespace PD
open PySem PySem.Spec PyProof.Rows L2 GenW
/-- the same heap -/
theorem inv_gens {X : Cx} {pins : List (Addr × Obj)} {σ : L2.St} {H : Hp} {s s' : Shared} (I : Inv X pins σ H s) (hp : s'.heap = s.heap) (os : s'.os = s.os) (b : AllBare s'.gens) : Inv X pins σ H s' := by
  obtain ⟨h', g', d', t', o'⟩ := s'
  cases hp; cases os
  exact { I with bare := b }
def GI (XG : Cx) (fp : List Addr) (tn : Nat → Heap → Prop) (σw : L2.St) (W : Nat → Nat → Hp → Prop) (i m : Nat) (s : Shared) : Prop := ∃ H', Inv XG [] σw H' s ∧ tn i s.heap ∧ (∀ b ∈ fp, H' b = none) ∧ W i m H'
def FB (XG : Cx) (Q : VK) (b : Bool) (s : Shared) : Prop := ∃ pins' σ' H', Inv XG pins' σ' H' s ∧ Q (.bl b) H'
section
variable {X XG : Cx} {A : Around} {fp : List Addr} {tn : Nat → Heap → Prop} {σw : L2.St} {W : Nat → Nat → Hp → Prop} {Q : VK} {stop : Bool} {Rr : Result → Shared → Prop} {P : Program} {w : World}
theorem FB.gens {b : Bool} {s s' : Shared} (h : FB XG Q b s) (e : s'.heap = s.heap) (os : s'.os = s.os) (bb : AllBare s'.gens) : FB XG Q b s' := by
  obtain ⟨p, σ, H, I, q⟩ := h
  exact ⟨p, σ, H, inv_gens I e os bb, q⟩
theorem FB.bare {b : Bool} {s : Shared} (h : FB XG Q b s) : AllBare s.gens := by
  obtain ⟨p, σ, H, I, q⟩ := h
  exact I.bare
theorem FB.kept {b : Bool} {s : Shared} {h' : Heap} (h : FB XG Q b s) (k : ∀ b o, s.heap.get? b = some o → h'.get? b = some o) : FB XG Q b { s with heap := h' } := by
  obtain ⟨p, σ, H, I, q⟩ := h
  exact ⟨p, σ, H, I.un (t' := s.toks) (Un.kept k) (I.hok.kept k), q⟩
theorem GI.bare {i m : Nat} {s : Shared} (h : GI XG fp tn σw W i m s) : AllBare s.gens := by
  obtain ⟨H, I, q⟩ := h
  exact I.bare
theorem GI.gens {i m : Nat} {s s' : Shared} (h : GI XG fp tn σw W i m s) (e : s'.heap = s.heap) (os : s'.os = s.os) (bb : AllBare s'.gens) : GI XG fp tn σw W i m s' := by
  obtain ⟨H, I, t, n, q⟩ := h
  exact ⟨H, inv_gens I e os bb, by rw [e]; exact t, n, q⟩
end
end PD
set_option Elab.async false
set_option linter.all false
set_option maxRecDepth 100000
set_option maxHeartbeats 1000000
namespace PD
open PySem PySem.Spec PyProof.Rows L2
def anyGo (stop : Bool) (t : Tg) (ft : DnB) (fe : Dn) (ρ : Rho) : List PyData → R Bool
  | [] => .ok (!stop)
  | d :: ds => match t.set d ρ with
    | some ρ1 => nx (ft ρ1) fun b => if b = true then nx (fe ρ1) fun y => match y with
        | .bool c => if c = stop then .ok stop else anyGo stop t ft fe ρ ds
        | _ => .bad
      else anyGo stop t ft fe ρ ds
    | none => .bad
def dAnyG (stop : Bool) (fi : DnL) (t : Tg) (ft : DnB) (fe : Dn) (vs : List Nat) : Dn := fun ρ => fi ρ >>= fun ds => nx (anyGo stop t ft fe (wipeR ρ vs) ds) fun b => .ok (.bool b)
end PD
set_option Elab.async false
set_option linter.all false
set_option maxRecDepth 100000
set_option maxHeartbeats 1000000
namespace PD
open PySem PySem.Spec PyProof.Rows L2
def gPopAt (i : Nat) (f : Dn) : Sn := fun ρ => ownAt ρ i fun ds => oR (f ρ) ρ fun d => match d with
  | .int k => match seqIndex? k ds.length with
    | some j => if -(2 ^ 63) ≤ k ∧ k < 2 ^ 63 ∧ j < ds.length then .nx (ρ.set i (some (.own (ds.eraseIdx j)))) else .bad
    | none => .bad
  | _ => .bad
theorem RpAll.dropLast {K : PySem.W.Frag} {G : Hp} {vs : List V} {ds : List PyData} (h : RpAll K G vs ds) : RpAll K G vs.dropLast ds.dropLast := by
  rw [List.dropLast_eq_take, List.dropLast_eq_take, h.length]
  exact h.take _
theorem RpAll.last {K : PySem.W.Frag} {G : Hp} {vs : List V} {ds : List PyData} (h : RpAll K G vs ds) (n : ds ≠ []) : ∃ y d, vs[vs.length - 1]? = some y ∧ ds[ds.length - 1]? = some d ∧ Rp K G y d := by
  have hl : 0 < ds.length := List.length_pos_iff.mpr n
  obtain ⟨y, h1, h2⟩ := h.get' (i := ds.length - 1) (d := ds[ds.length - 1]) (List.getElem?_eq_getElem _)
  exact ⟨y, _, by rw [h.length]; exact h1, List.getElem?_eq_getElem _, h2⟩
def lstRg (lo hi : Int) : List PyData := (List.range (hi - lo).toNat).map fun i => .int (lo + (i : Nat))
def rgOk (a b : Int) : Bool := decide (-(2 ^ 62) ≤ a ∧ a < 2 ^ 62 ∧ -(2 ^ 62) ≤ b ∧ b < 2 ^ 62 ∧ (b - a).toNat ≤ 2 ^ 24)
def bLstR1 : PyData → R PyData
  | .int n => if rgOk 0 n = true then .ok (.list (lstRg 0 n)) else .bad
  | _ => .bad
theorem rgOk_ok {a b : Int} (h : rgOk a b = true) : RgOk a b := by
  have h := of_decide_eq_true (p := -(2 ^ 62) ≤ a ∧ a < 2 ^ 62 ∧ -(2 ^ 62) ≤ b ∧ b < 2 ^ 62 ∧ (b - a).toNat ≤ 2 ^ 24) h
  exact h
theorem rp_rg {K : PySem.W.Frag} {G : Hp} (a b : Int) : RpAll K G (rgV a b) (lstRg a b) := by
  unfold rgV lstRg
  induction List.range (b - a).toNat with
  | nil => exact .nil
  | cons i r ih => exact .cons (.int _) ih
theorem lstRg_len (a b : Int) (h : rgOk a b = true) : (lstRg a b).length ≤ sizeLine := by
  unfold lstRg
  rw [List.length_map, List.length_range, sizeLine_eq]
  have := of_decide_eq_true h
  omega
section
variable {X : Cx} {Tb : List Addr} {W : WX} {a b : Expr} {f g : Dn} {pos p p2 pos2 : Pos}
theorem fd_lstR1 (hc : X.calm = true) (hl : Gl X "list") (ml : X.mg "list" = none) (hr : Gl X "range") (mr : X.mg "range" = none) (ha : PE X a (tD X.K Tb W f))
    (n1 : starEach [a] X.env = (false, eval a X.env) :: starEach [] X.env := by rfl) (n2 : starEach [.Call (.Name "range" p2) [a] [] pos2] X.env = (false, eval (.Call (.Name "range" p2) [a] [] pos2) X.env) :: starEach [] X.env := by rfl) :
    PE X (.Call (.Name "list" p) [.Call (.Name "range" p2) [a] [] pos2] [] pos) (tD X.K Tb W (dOne bLstR1 f)) :=
  (pe_listRg hc hl ml (prg_1 hr mr ha n1) n2).by fun σ H Q ⟨H0, O0, O, ρ, st, h⟩ => ⟨H0, O0, O, ρ, st, by
    refine Post.then h fun d v H1 ex rv k => ?_
    unfold bLstR1 at k
    split at k
    · rename_i n
      cases rv
      split at k
      · rename_i z
        refine ⟨n, rfl, rgOk_ok z, fun q hq => ?_⟩
        have al := (st.step ex).al
        refine k _ _ (Ext.new hq) (.lst (.of ?_) (lstRg_len _ _ z) (rp_rg _ _))
        rw [hide_out (fun m => al q m hq)]
        exact upd_same
      · exact k.elim
    · exact k.elim⟩
end
end PD
set_option Elab.async false
set_option linter.all false
set_option maxRecDepth 100000
set_option maxHeartbeats 1000000
namespace PD
open PySem PySem.Spec PyProof.Rows L2
/-- the module hides none of the names that Python gives -/
structure Bi (mg : Str → Option Value) : Prop where
  len : mg "len" = none
  int : mg "int" = none
  bool : mg "bool" = none
  abs : mg "abs" = none
  tuple : mg "tuple" = none
  list : mg "list" = none
  sum : mg "sum" = none
  max : mg "max" = none
  min : mg "min" = none
  any : mg "any" = none
  all : mg "all" = none
  range : mg "range" = none
  isinstance : mg "isinstance" = none
  sorted : mg "sorted" = none
  enumerate : mg "enumerate" = none
  zip : mg "zip" = none
  set : mg "set" = none
section
variable {X : Cx} {Tb : List Addr} {W : WX} {a b e : Expr} {es : List Expr} {f g : Dn} {gl : DnL} {pos p : Pos} {k : Nat}
theorem boot_max : bootBuiltins "max" = some (.builtin "max") := by decide +kernel
theorem boot_min : bootBuiltins "min" = some (.builtin "min") := by decide +kernel
theorem boot_abs : bootBuiltins "abs" = some (.builtin "abs") := by decide +kernel
theorem boot_sorted : bootBuiltins "sorted" = some (.builtin "sorted") := by decide +kernel
theorem boot_any : bootBuiltins "any" = some (.builtin "any") := by decide +kernel
theorem boot_all : bootBuiltins "all" = some (.builtin "all") := by decide +kernel
theorem _root_.L2.Room.u64 {k : Nat} {A : Around} (r : Room k A) : A.units + 64 < cLine := by have := r.un; omega
theorem _root_.L2.Room.u65 {k : Nat} {A : Around} (r : Room k A) : A.units + 65 < cLine := by have := r.un; omega
theorem e_eq (hr : Room k X.A) (ha : PE X a (tD X.K Tb W f)) (hb : PE X b (tD X.K Tb W g)) (hm : behindInMarks .Eq b = false := by rfl) : PE X (.Compare a [.Eq] [b] pos) (tD X.K Tb W (dTwo oEq f g)) := fd_cmp (op_eqD hr.u64) ok_eq ha hb hm
theorem e_ne (hr : Room k X.A) (ha : PE X a (tD X.K Tb W f)) (hb : PE X b (tD X.K Tb W g)) (hm : behindInMarks .NotEq b = false := by rfl) : PE X (.Compare a [.NotEq] [b] pos) (tD X.K Tb W (dTwo oNe f g)) := fd_cmp (op_neD hr.u64) ok_ne ha hb hm
theorem e_lt (ha : PE X a (tD X.K Tb W f)) (hb : PE X b (tD X.K Tb W g)) (hm : behindInMarks .Lt b = false := by rfl) : PE X (.Compare a [.Lt] [b] pos) (tD X.K Tb W (dTwo oLt f g)) := fd_cmp op_lt ok_lt ha hb hm
theorem e_le (ha : PE X a (tD X.K Tb W f)) (hb : PE X b (tD X.K Tb W g)) (hm : behindInMarks .LtE b = false := by rfl) : PE X (.Compare a [.LtE] [b] pos) (tD X.K Tb W (dTwo oLe f g)) := fd_cmp op_le ok_le ha hb hm
theorem e_ge (ha : PE X a (tD X.K Tb W f)) (hb : PE X b (tD X.K Tb W g)) (hm : behindInMarks .GtE b = false := by rfl) : PE X (.Compare a [.GtE] [b] pos) (tD X.K Tb W (dTwo oGe f g)) := fd_cmp op_ge ok_ge ha hb hm
theorem e_in (hr : Room k X.A) (ha : PE X a (tD X.K Tb W f)) (hb : PE X b (tD X.K Tb W g)) (hm : behindInMarks .In b = false := by rfl) : PE X (.Compare a [.In] [b] pos) (tD X.K Tb W (dTwo oIn f g)) := fd_cmp (PD.op_inS hr.u65) ok_in ha hb hm
theorem e_notin (hr : Room k X.A) (ha : PE X a (tD X.K Tb W f)) (hb : PE X b (tD X.K Tb W g)) (hm : behindInMarks .NotIn b = false := by rfl) : PE X (.Compare a [.NotIn] [b] pos) (tD X.K Tb W (dTwo oNotIn f g)) := fd_cmp (PD.op_notInS hr.u65) ok_notIn ha hb hm
theorem t_eq (hr : Room k X.A) (ha : PE X a (tD X.K Tb W f)) (hb : PE X b (tD X.K Tb W g)) (hm : behindInMarks .Eq b = false := by rfl) : PT X (.Compare a [.Eq] [b] pos) (tDT X.K Tb W (dAsB (dTwo oEq f g))) := ft_cmp (op_eqD hr.u64) ok_eq ha hb hm
theorem t_ne (hr : Room k X.A) (ha : PE X a (tD X.K Tb W f)) (hb : PE X b (tD X.K Tb W g)) (hm : behindInMarks .NotEq b = false := by rfl) : PT X (.Compare a [.NotEq] [b] pos) (tDT X.K Tb W (dAsB (dTwo oNe f g))) := ft_cmp (op_neD hr.u64) ok_ne ha hb hm
theorem t_lt (ha : PE X a (tD X.K Tb W f)) (hb : PE X b (tD X.K Tb W g)) (hm : behindInMarks .Lt b = false := by rfl) : PT X (.Compare a [.Lt] [b] pos) (tDT X.K Tb W (dAsB (dTwo oLt f g))) := ft_cmp op_lt ok_lt ha hb hm
theorem t_le (ha : PE X a (tD X.K Tb W f)) (hb : PE X b (tD X.K Tb W g)) (hm : behindInMarks .LtE b = false := by rfl) : PT X (.Compare a [.LtE] [b] pos) (tDT X.K Tb W (dAsB (dTwo oLe f g))) := ft_cmp op_le ok_le ha hb hm
theorem t_gt (ha : PE X a (tD X.K Tb W f)) (hb : PE X b (tD X.K Tb W g)) (hm : behindInMarks .Gt b = false := by rfl) : PT X (.Compare a [.Gt] [b] pos) (tDT X.K Tb W (dAsB (dTwo oGt f g))) := ft_cmp op_gt ok_gt ha hb hm
theorem t_ge (ha : PE X a (tD X.K Tb W f)) (hb : PE X b (tD X.K Tb W g)) (hm : behindInMarks .GtE b = false := by rfl) : PT X (.Compare a [.GtE] [b] pos) (tDT X.K Tb W (dAsB (dTwo oGe f g))) := ft_cmp op_ge ok_ge ha hb hm
theorem t_in (hr : Room k X.A) (ha : PE X a (tD X.K Tb W f)) (hb : PE X b (tD X.K Tb W g)) (hm : behindInMarks .In b = false := by rfl) : PT X (.Compare a [.In] [b] pos) (tDT X.K Tb W (dAsB (dTwo oIn f g))) := ft_cmp (PD.op_inS hr.u65) ok_in ha hb hm
theorem t_notin (hr : Room k X.A) (ha : PE X a (tD X.K Tb W f)) (hb : PE X b (tD X.K Tb W g)) (hm : behindInMarks .NotIn b = false := by rfl) : PT X (.Compare a [.NotIn] [b] pos) (tDT X.K Tb W (dAsB (dTwo oNotIn f g))) := ft_cmp (PD.op_notInS hr.u65) ok_notIn ha hb hm
theorem e_ix (ha : PE X a (tD X.K Tb W f)) (hb : PE X b (tD X.K Tb W g)) (hs : PlainIx b := by intro _ _; rfl) : PE X (.Subscript a b pos) (tD X.K Tb W (dTwo oIx f g)) := fd_ix ha hb hs
theorem e_len (B : Bi X.mg) (ha : PA X (e :: es) (tDs X.K Tb W gl)) (hg : Gl X "len" := by rfl) (he : starEach (e :: es) X.env = (false, eval e X.env) :: starEach es X.env := by rfl) (hpl : (backTo pos (starEach es X.env)).any (·.1) = false := by rfl) :
    PE X (.Call (.Name "len" p) (e :: es) [] pos) (tD X.K Tb W (dArg bLen gl)) := fd_callB call_len_seq ok_len hg B.len PySem.boot_len ha (by decide) (by decide) he hpl
theorem e_int (B : Bi X.mg) (ha : PA X (e :: es) (tDs X.K Tb W gl)) (hg : Gl X "int" := by rfl) (he : starEach (e :: es) X.env = (false, eval e X.env) :: starEach es X.env := by rfl) (hpl : (backTo pos (starEach es X.env)).any (·.1) = false := by rfl) :
    PE X (.Call (.Name "int" p) (e :: es) [] pos) (tD X.K Tb W (dArg bInt gl)) := fd_callTy call_int1 ok_int hg B.int boot_int ha (by decide) (by decide) he hpl
theorem e_abs (B : Bi X.mg) (ha : PA X (e :: es) (tDs X.K Tb W gl)) (hg : Gl X "abs" := by rfl) (he : starEach (e :: es) X.env = (false, eval e X.env) :: starEach es X.env := by rfl) (hpl : (backTo pos (starEach es X.env)).any (·.1) = false := by rfl) :
    PE X (.Call (.Name "abs" p) (e :: es) [] pos) (tD X.K Tb W (dArg bAbs gl)) := fd_callB call_abs ok_abs hg B.abs boot_abs ha (by decide) (by decide) he hpl
theorem e_tuple (B : Bi X.mg) (ha : PA X (e :: es) (tDs X.K Tb W gl)) (hg : Gl X "tuple" := by rfl) (he : starEach (e :: es) X.env = (false, eval e X.env) :: starEach es X.env := by rfl) (hpl : (backTo pos (starEach es X.env)).any (·.1) = false := by rfl) :
    PE X (.Call (.Name "tuple" p) (e :: es) [] pos) (tD X.K Tb W (dArg bTuple gl)) := fd_callTy call_tuple_of ok_tuple hg B.tuple boot_tuple ha (by decide) (by decide) he hpl
theorem e_max (B : Bi X.mg) (ha : PA X (e :: es) (tDs X.K Tb W gl)) (hc : X.calm = true := by rfl) (hg : Gl X "max" := by rfl) (he : starEach (e :: es) X.env = (false, eval e X.env) :: starEach es X.env := by rfl) (hpl : (backTo pos (starEach es X.env)).any (·.1) = false := by rfl) :
    PE X (.Call (.Name "max" p) (e :: es) [] pos) (tD X.K Tb W (dArg bMax gl)) := fd_callB (cr_max hc) ok_max hg B.max boot_max ha (by decide) (by decide) he hpl
theorem e_min2 (B : Bi X.mg) (ha : PA X (e :: es) (tDs X.K Tb W gl)) (hc : X.calm = true := by rfl) (hg : Gl X "min" := by rfl) (he : starEach (e :: es) X.env = (false, eval e X.env) :: starEach es X.env := by rfl) (hpl : (backTo pos (starEach es X.env)).any (·.1) = false := by rfl) :
    PE X (.Call (.Name "min" p) (e :: es) [] pos) (tD X.K Tb W (dArg bMin2 gl)) := fd_callB (call_min2 hc) ok_min2 hg B.min boot_min ha (by decide) (by decide) he hpl
theorem e_any (B : Bi X.mg) (ha : PA X (e :: es) (tDs X.K Tb W gl)) (hc : X.calm = true := by rfl) (hg : Gl X "any" := by rfl) (he : starEach (e :: es) X.env = (false, eval e X.env) :: starEach es X.env := by rfl) (hpl : (backTo pos (starEach es X.env)).any (·.1) = false := by rfl) :
    PE X (.Call (.Name "any" p) (e :: es) [] pos) (tD X.K Tb W (dArg bAny gl)) := fd_callB (cr_any hc) ok_any hg B.any boot_any ha (by decide) (by decide) he hpl
theorem e_all (B : Bi X.mg) (ha : PA X (e :: es) (tDs X.K Tb W gl)) (hc : X.calm = true := by rfl) (hg : Gl X "all" := by rfl) (he : starEach (e :: es) X.env = (false, eval e X.env) :: starEach es X.env := by rfl) (hpl : (backTo pos (starEach es X.env)).any (·.1) = false := by rfl) :
    PE X (.Call (.Name "all" p) (e :: es) [] pos) (tD X.K Tb W (dArg bAll gl)) := fd_callB (cr_all hc) ok_all hg B.all boot_all ha (by decide) (by decide) he hpl
theorem e_sorted (B : Bi X.mg) (hr : Room k X.A) (ha : PA X (e :: es) (tDs X.K Tb W gl)) (hg : Gl X "sorted" := by rfl) (he : starEach (e :: es) X.env = (false, eval e X.env) :: starEach es X.env := by rfl) (hpl : (backTo pos (starEach es X.env)).any (·.1) = false := by rfl) :
    PE X (.Call (.Name "sorted" p) (e :: es) [] pos) (tD X.K Tb W (dArg bSorted gl)) := fd_callB (cr_sortD hr.u64) ok_sorted hg B.sorted boot_sorted ha (by decide) (by decide) he hpl
theorem e_isInt (B : Bi X.mg) {py : Pos} (ha : PE X a (tD X.K Tb W f)) (hg : Gl X "isinstance" := by rfl) (hgy : Gl X "int" := by rfl) (he : starEach [a, .Name "int" py] X.env = (false, eval a X.env) :: starEach [.Name "int" py] X.env := by rfl) (he2 : starEach [.Name "int" py] X.env = (false, eval (.Name "int" py) X.env) :: starEach [] X.env := by rfl) (hpl : (backTo pos (starEach [.Name "int" py] X.env)).any (·.1) = false := by rfl) :
    PE X (.Call (.Name "isinstance" p) [a, .Name "int" py] [] pos) (tD X.K Tb W (dOne (oIsi "int") f)) := fd_isi ha hg B.isinstance hgy B.int boot_int (by decide) (by decide) he he2 hpl
theorem e_isBool (B : Bi X.mg) {py : Pos} (ha : PE X a (tD X.K Tb W f)) (hg : Gl X "isinstance" := by rfl) (hgy : Gl X "bool" := by rfl) (he : starEach [a, .Name "bool" py] X.env = (false, eval a X.env) :: starEach [.Name "bool" py] X.env := by rfl) (he2 : starEach [.Name "bool" py] X.env = (false, eval (.Name "bool" py) X.env) :: starEach [] X.env := by rfl) (hpl : (backTo pos (starEach [.Name "bool" py] X.env)).any (·.1) = false := by rfl) :
    PE X (.Call (.Name "isinstance" p) [a, .Name "bool" py] [] pos) (tD X.K Tb W (dOne (oIsi "bool") f)) := fd_isi ha hg B.isinstance hgy B.bool boot_bool (by decide) (by decide) he he2 hpl
theorem e_isTuple (B : Bi X.mg) {py : Pos} (ha : PE X a (tD X.K Tb W f)) (hg : Gl X "isinstance" := by rfl) (hgy : Gl X "tuple" := by rfl) (he : starEach [a, .Name "tuple" py] X.env = (false, eval a X.env) :: starEach [.Name "tuple" py] X.env := by rfl) (he2 : starEach [.Name "tuple" py] X.env = (false, eval (.Name "tuple" py) X.env) :: starEach [] X.env := by rfl) (hpl : (backTo pos (starEach [.Name "tuple" py] X.env)).any (·.1) = false := by rfl) :
    PE X (.Call (.Name "isinstance" p) [a, .Name "tuple" py] [] pos) (tD X.K Tb W (dOne (oIsi "tuple") f)) := fd_isi ha hg B.isinstance hgy B.tuple boot_tuple (by decide) (by decide) he he2 hpl
end
def FnD (P : Program) (w : World) (K : PySem.W.Frag) (mg : Str → Option Value) (base : Heap) (Tb : List Addr) (x : Str) (k : Nat) (m : List PyData → R PyData) : Prop :=
  ∃ (f : Addr) (fd : FuncData) (ps : List Str), FnOk P w K mg base (L2N.CX P w) k f fd ps (spD K Tb m) ∧ mg x = some (.ref f) ∧ PySem.W.keepIn K (.ref f) = true ∧ Binds K fd ps []
section
variable {X : Cx} {Tb : List Addr} {W : WX} {k j : Nat} {m : List PyData → R PyData} {x : Str} {p pos : Pos} {e : Expr} {es : List Expr} {gl : DnL}
theorem e_call (F : FnD X.prog X.w X.K X.mg X.base Tb x k m) (hx : ∀ σ, PassesAt (L2N.CX X.prog X.w) X σ (L2.WE W σ)) (hr : Room j X.A) (ha : PA X (e :: es) (tDs X.K Tb W gl)) (hj : k ≤ j := by decide) (hg : Gl X x := by rfl)
    (hdb : (x == ("__debug__" : Str)) = false := by decide) (he : starEach (e :: es) X.env = (false, eval e X.env) :: starEach es X.env := by rfl) (hpl : (backTo pos (starEach es X.env)).any (·.1) = false := by rfl) :
    PE X (.Call (.Name x p) (e :: es) [] pos) (tD X.K Tb W (dArg m gl)) := by
  obtain ⟨f, fd, ps, h, g, kp, b⟩ := F
  exact fd_call h (hr.mono hj) hg g kp b hx ha hdb he hpl
end
end PD
set_option Elab.async false
set_option linter.all false
set_option maxRecDepth 100000
set_option maxHeartbeats 1000000
namespace PD
open PySem PySem.Spec PyProof.Rows L2
theorem cx_no {l : PySem.W.OpenLaw} : ∀ (w : World) (H : Hp) (s : Shared) (e : Value) (s' : Shared), L2N.CX l.prog w [] H s (fun _ _ _ => False) e s' → False := fun _ _ _ _ _ h => by
  obtain ⟨_, _, _, _, _, _, _, _, _, _, _, _, z⟩ := h
  exact z
theorem hide0 (H : Hp) : hide [] H = H := by funext b; unfold hide; rw [if_neg (by simp)]
theorem rp_ints {K : PySem.W.Frag} {G : Hp} : ∀ ns : List Int, RpAll K G (ns.map V.int) (ns.map PyData.int)
  | [] => .nil
  | n :: r => .cons (.int n) (rp_ints r)
theorem spD_law {K : PySem.W.Frag} {Tb : List Addr} {m : List PyData → R PyData} (hm : ∀ ns : List Int, ns.length ≤ 63 → m [.list (ns.map .int)] = .ok (.bool true)) {H : Hp} {a : Addr} {ns : List Int} (hT : ∀ P ∈ Tb, TabC H P) (hl : ns.length ≤ 63) (hS : SqL K H a (ns.map V.int)) :
    spD K Tb m [.ref a] H (fun v _ => v = .bl true) fun _ _ _ => False := by
  refine ⟨[], [.list (ns.map .int)], fun b m => by simp at m, hT, .cons (.lst (by rw [hide0]; exact hS) ?_ (rp_ints ns)) .nil, ?_⟩
  · rw [List.length_map, sizeLine_eq]; omega
  · rw [hm ns hl]
    intro v H' e r
    have r : Rp K (hide [] H') v (.bool true) := r
    cases r
    rfl
end PD
set_option Elab.async false
set_option linter.all false
set_option maxRecDepth 100000
set_option maxHeartbeats 1000000
namespace PD
open PySem PySem.Spec PyProof.Rows L2
theorem tabB_of {base : Heap} {mg : Str → Option Value} {c P : Addr} (t : LamX.TabB base mg c P) : GxR.TabB base mg c P := ⟨t.code, t.bm, t.gP⟩
/-- what the top has left of each def's code object: its table is empty -/
def Tabs (q : Program) (K : PySem.W.Frag) (h : Heap) : Prop :=
  ∀ (x : Str) (d : DefRec) (c P : Addr), (recsOf q).find? (fun e => e.name == x) = some d → PySem.W.tabIn K x = some (c, P) → PySem.W.CodeHd h c P ∧ h.get? P = some (PySem.W.tabObj #[])
theorem walk_tabs {l : PySem.W.OpenLaw} {n k : Nat} {q : Program} {loose : List Str} {XP : (Str → Option Value) → Heap → Prop} {YP : World → Heap → Prop} {d : DefRec} {K : Params → PySem.W.Frag} {CX : World → CXT} {x : Str}
    (hn : l.most = some n) (hn2 : n ≤ sizeLine) (hdf : d.params.defaults = [])
    (hr : Room k callerA) (hY : ∀ (w : World) (h : Heap), YP w h → (K w.params).In h)
    (F : ∀ (w : World) (mg : Str → Option Value) (fa : Addr) (h : Heap), Tabs q (K w.params) h → (K w.params).In h → h.Ns mainGlobals mg → mg d.name = some (.ref fa) → LamX.LawAtS l w (K w.params) (CX w) k n x mg fa h)
    (hCX : ∀ (w : World) (H : Hp) (s : Shared) (e : Value) (s' : Shared), CX w [] H s (fun _ _ _ => False) e s' → False) :
    PySem.W.WalkO q loose XP YP l.row.toRowW d [] (fun f vs => PySem.call f vs) := by
  refine Att.attach_callB hn hdf ?_
  intro w s₀ s₁ mg mb fa o pm cd doc a vs ns G Y _ _ _ hmg hobj hints hlen hbits hg
  have KX := hY w _ Y
  have tabs : Tabs q (K w.params) s₁.heap := fun x d c P h1 h2 => PySem.W.tab_of G.T KX h1 h2
  obtain ⟨fd, cs, sp, hT, nT, C, hb, hsp, hF⟩ := F w mg fa _ tabs KX G.T.g hmg
  refine LamX.law_callTs KX G.T.g G.T.b G.T.builtins G.T.nolimit hg hT nT C G.T.bmain hobj hints (Nat.le_trans hlen hn2) hr hF hb (fun H hH hS => ?_) fun H e s' => ?_
  · exact hsp H a ns hlen hbits hH hS
  · exact hCX w H s₁ e s'
end PD
set_option Elab.async false
set_option linter.all false
set_option maxRecDepth 100000
set_option maxHeartbeats 1000000
namespace PD
open PySem PySem.Spec PyProof.Rows L2
section
variable {X : Cx} {pins : List (Addr × Obj)} {σ : L2.St} {H : Hp} {s : Shared}
theorem itemsAre_of {P : Program} {w : World} : ∀ {k : List Int} {its : List Value}, Vals (k.map V.int) its → ItemsAre (intKind P w) k its
  | [], _, h => by cases h; exact .nil
  | i :: k, _, h => by
    cases h with
    | cons r t =>
      obtain ⟨u, rfl⟩ := r
      exact .cons (by show Value.isInt i (.int i u) = true; simp [Value.isInt]) (itemsAre_of t)
theorem key_is (I : Inv X pins σ H s) {b : Addr} {k : List Int} (h : SqT X.K H b (k.map V.int)) : (ikt X.prog X.w).is s.heap k b := by
  obtain ⟨its, rv, ⟨o, e, c, n, d⟩, _⟩ := I.tuple h
  exact ⟨o, its.toArray, n, e, c, d, itemsAre_of rv⟩
abbrev kvT (xs : List (List Int × Addr)) : List (List Int × Addr × Value) := xs.map fun x => (x.1, x.2, .bool true)
theorem dct_at (I : Inv X pins σ H s) {a : Addr} {ep : Nat} {xs : List (List Int × Addr)} (h : H a = some (dctO a ep xs)) (hk : ∀ x ∈ xs, SqT X.K H x.2 (x.1.map V.int)) : (a == sysModules) = false ∧ xs.length ≤ sizeLine ∧ s.heap.DictOfH (ikt X.prog X.w) a (kvT xs) := by
  obtain ⟨⟨h1, h2, h3, o, es, e1, e2, e3, e4⟩, _, _⟩ := I.hok a _ h
  refine ⟨h1, h2, o, es, ep, e1, e2, e3, ?_, fun x hx => ?_, ?_⟩
  · rw [e4 X.prog X.w, List.map_map]; rfl
  · obtain ⟨y, hy, rfl⟩ := List.mem_map.mp hx
    exact key_is I (hk y hy)
  · rw [List.map_map]; exact h3
theorem dct_ok {P : Program} {w : World} {H' : Hp} {h : Heap} {a : Addr} {xs : List (List Int × Addr)} (h1 : (a == sysModules) = false) (h2 : xs.length ≤ sizeLine) (d : h.DictOfH (ikt P w) a (kvT xs)) : ∃ ep, ObjOk P w H' h a (dctO a ep xs) := by
  obtain ⟨o, es, ep, e1, e2, e3, e4, _, e6⟩ := d
  rw [List.map_map] at e6 e4
  refine ⟨ep, ⟨h1, h2, e6, o, es, e1, e2, e3, fun P' w' => e4⟩, ⟨o, e1⟩, fun k1 k2 p st => ?_⟩
  obtain ⟨h1, h2, h3, o, es, e1, e2, e3, e4⟩ := p
  exact ⟨h1, h2, h3, o, es, st o e1, e2, e3, e4⟩
theorem dct_new {P : Program} {w : World} {H' : Hp} (h : Heap) (hb : sysModules < h.objs.size) : ObjOk P w H' (h.push { cls := .type "dict", data := .dict #[] }) h.objs.size (dctO h.objs.size 0 []) := by
  have e : (h.push { cls := .type "dict", data := .dict #[] }).get? h.objs.size = some { cls := .type "dict", data := .dict #[] } := Heap.get?_push_size _ rfl
  refine ⟨⟨beq_eq_false_iff_ne.mpr (Nat.ne_of_gt hb), Nat.zero_le _, List.nodup_nil, _, #[], e, ⟨rfl, rfl, rfl⟩, rfl, fun _ _ => rfl⟩, ⟨_, e⟩, fun k1 k2 p st => ?_⟩
  obtain ⟨h1, h2, h3, o, es, e1, e2, e3, e4⟩ := p
  exact ⟨h1, h2, h3, o, es, st o e1, e2, e3, e4⟩
theorem dct_any {P : Program} {w : World} {H H' : Hp} {h : Heap} {a : Addr} {ep : Nat} {xs : List (List Int × Addr)} (o : ObjOk P w H h a (dctO a ep xs)) : ObjOk P w H' h a (dctO a ep xs) := o
def putT (xs : List (List Int × Addr)) (k : List Int) (b : Addr) : List (List Int × Addr) := if k ∈ xs.map (·.1) then xs else xs ++ [(k, b)]
theorem atKey_kvT (xs : List (List Int × Addr)) (k : List Int) : (atKey (kvT xs) k).isSome = decide (k ∈ xs.map (·.1)) := by
  unfold atKey
  induction xs with
  | nil => rfl
  | cons x r ih =>
    rw [show kvT (x :: r) = (x.1, x.2, .bool true) :: kvT r from rfl, List.find?_cons]
    by_cases e : x.1 = k
    · subst e; simp
    · have e' : ¬ k = x.1 := fun z => e z.symm
      simp only [e, decide_false, List.map_cons, List.mem_cons, e', false_or]
      exact ih
theorem stored_kvT (xs : List (List Int × Addr)) (k : List Int) (b : Addr) : storedH (kvT xs) k b (.bool true) = kvT (putT xs k b) := by
  unfold storedH putT
  by_cases h : k ∈ xs.map (·.1)
  · rw [if_pos (by rw [atKey_kvT]; exact decide_eq_true h), if_pos h]
    unfold kvT
    rw [List.map_map]
    refine List.map_congr_left fun x _ => ?_
    show putAt k (.bool true) (x.1, x.2, .bool true) = _
    unfold putAt
    split <;> rfl
  · rw [if_neg (by rw [atKey_kvT]; simpa using h), if_neg h]
    unfold kvT
    rw [List.map_append]; rfl
theorem putT_len (xs : List (List Int × Addr)) (k : List Int) (b : Addr) : (putT xs k b).length ≤ xs.length + 1 := by
  unfold putT; split <;> simp
theorem putT_mem {xs : List (List Int × Addr)} {k : List Int} {b : Addr} {x : List Int × Addr} (h : x ∈ putT xs k b) : x ∈ xs ∨ x = (k, b) := by
  unfold putT at h
  split at h
  · exact .inl h
  · rcases List.mem_append.mp h with h | h
    · exact .inl h
    · exact .inr (List.mem_singleton.mp h)
/-- d[k] = True -/
theorem store_dct {E : Value → Shared → Prop} {D b : Addr} {ep : Nat} {xs : List (List Int × Addr)} {k : List Int} {Q : Unit → Shared → Prop} (hu : X.A.units < cLine) (I : Inv X pins σ H s) (hD : H D = some (dctO D ep xs)) (hk : ∀ x ∈ xs, SqT X.K H x.2 (x.1.map V.int)) (hz : xs.length < sizeLine)
    (hb : SqT X.K H b (k.map V.int)) (h : ∀ ep' s', Inv X pins σ (upd H D (dctO D ep' (putT xs k b))) s' → Q () s') : wpAny (model X.prog X.w) X.A (dictSet D (.ref b) (.bool true)) Q E s := by
  obtain ⟨h1, h2, d⟩ := dct_at I hD hk
  refine wpAny_dictSet_heap (hsz := by rw [List.length_map]; exact h2) hu (key_is I hb) d fun h' d' hs => ?_
  rw [stored_kvT] at d'
  have he : ∃ q, h'.get? D = some q := let ⟨q, _, _, hq, _⟩ := d'; ⟨q, hq⟩
  obtain ⟨ep', ok⟩ := dct_ok (P := X.prog) (w := X.w) (H' := H) h1 (by have := putT_len xs k b; omega) d'
  exact h ep' _ (I.write (x := D) (e := D) (by rw [hD]; trivial) (.inl rfl) (fun b q hb z => (hs.2 b hb).trans z) he (dct_any ok))
/-- k in d -/
def rInT (K : PySem.W.Frag) (neg : Bool) : R2 := fun x y H Q => ∃ a b k ep xs, x = .ref b ∧ y = .ref a ∧ SqT K H b (k.map V.int) ∧ H a = some (dctO a ep xs) ∧ (∀ x ∈ xs, SqT K H x.2 (x.1.map V.int)) ∧ Q (.bl (if neg then !decide (k ∈ xs.map (·.1)) else decide (k ∈ xs.map (·.1)))) H
theorem op_inT (hu : X.A.units + 65 < cLine) : OpR X (compareOp .In) (rInT X.K false) := by
  intro pins s σ H x y v u Q I rx ry h
  obtain ⟨a, b, k, ep, xs, rfl, rfl, hb, ha, hk, q⟩ := h
  cases rx; cases ry
  obtain ⟨h1, h2, d⟩ := dct_at I ha hk
  refine wpAny_in_heap (show X.A.units + 1 < cLine by omega) (key_is I hb) h1 d ?_
  rw [atKey_kvT]
  exact ⟨.bl _, H, I.tok _, rfl, q⟩
theorem op_notInT (hu : X.A.units + 65 < cLine) : OpR X (compareOp .NotIn) (rInT X.K true) := by
  intro pins s σ H x y v u Q I rx ry h
  obtain ⟨a, b, k, ep, xs, rfl, rfl, hb, ha, hk, q⟩ := h
  cases rx; cases ry
  obtain ⟨h1, h2, d⟩ := dct_at I ha hk
  refine wpAny_notIn_heap (show X.A.units + 1 < cLine by omega) (key_is I hb) h1 d ?_
  rw [atKey_kvT]
  exact ⟨.bl _, H, I.tok _, rfl, q⟩
end
def asTu : PyData → Option (List Int)
  | .tuple l => asInts l
  | _ => none
def keysOf (kvs : List (PyData × PyData)) : List (Option (List Int)) := kvs.map fun p => asTu p.1
/-- a dict of another kind (PD1: dkD, obD) -/
def marked : List (PyData × PyData) → Bool
  | (.bool _, _) :: _ => true
  | (.none, _) :: _ => true
  | _ => false
def oInT (d e : PyData) : R PyData := match e with
  | .dict kvs => (match asTu d with | some k => if marked kvs = true then .bad else .ok (.bool (decide (some k ∈ keysOf kvs))) | none => .bad)
  | _ => .bad
def oNotInT (d e : PyData) : R PyData := match e with
  | .dict kvs => (match asTu d with | some k => if marked kvs = true then .bad else .ok (.bool (!decide (some k ∈ keysOf kvs))) | none => .bad)
  | _ => .bad
theorem marked_dct (xs : List (List Int × Addr)) : marked (xs.map dctE) = false := by cases xs <;> rfl
theorem asInts_eq : ∀ {l : List PyData} {k : List Int}, asInts l = some k → l = k.map .int
  | [], _, h => by cases h; rfl
  | .int i :: r, k, h => by
    unfold asInts at h
    cases e : asInts r with
    | none => rw [e] at h; cases h
    | some k' => rw [e] at h; cases h; rw [List.map_cons, asInts_eq e]
  | .none :: _, _, h => by cases h
  | .bool _ :: _, _, h => by cases h
  | .str _ :: _, _, h => by cases h
  | .list _ :: _, _, h => by cases h
  | .tuple _ :: _, _, h => by cases h
  | .dict _ :: _, _, h => by cases h
theorem asInts_ints : ∀ l : List Int, asInts (l.map .int) = some l
  | [] => rfl
  | x :: r => by rw [List.map_cons, asInts, asInts_ints r]; rfl
theorem keysOf_dct (xs : List (List Int × Addr)) : keysOf (xs.map dctE) = xs.map fun x => some x.1 := by
  unfold keysOf
  rw [List.map_map]
  exact List.map_congr_left fun x _ => asInts_ints x.1
theorem rp_ints_inv {K : PySem.W.Frag} {G : Hp} : ∀ {k : List Int} {vs : List V}, RpAll K G vs (k.map .int) → vs = k.map V.int
  | [], _, h => by cases h; rfl
  | i :: k, _, h => by
    cases h with
    | cons r t => cases r; rw [List.map_cons, rp_ints_inv t]
theorem asTu_rp {K : PySem.W.Frag} {G : Hp} {v : V} {d : PyData} {k : List Int} (r : Rp K G v d) (h : asTu d = some k) : ∃ b, v = .ref b ∧ SqT K G b (k.map V.int) := by
  unfold asTu at h
  split at h
  · cases r with
    | tup a z b =>
      have e := asInts_eq h
      subst e
      rw [rp_ints_inv b] at a
      exact ⟨_, rfl, a⟩
  · cases h
theorem mem_some {α : Type} [DecidableEq α] (l : List (List Int × α)) (k : List Int) : decide (some k ∈ l.map fun x => some x.1) = decide (k ∈ l.map (·.1)) := by
  have : (some k ∈ l.map fun x => some x.1) ↔ k ∈ l.map (·.1) := by simp
  by_cases h : k ∈ l.map (·.1)
  · rw [decide_eq_true h, decide_eq_true (this.mpr h)]
  · rw [decide_eq_false h, decide_eq_false fun z => h (this.mp z)]
section
variable {K : PySem.W.Frag}
theorem ok_inT : Ok2 K (rInT K false) oInT := by
  intro O H Wx x y d e Q al hx hy h
  unfold oInT at h
  split at h
  · split at h
    · rename_i k hk
      obtain ⟨b, rfl, hb⟩ := asTu_rp hx hk
      cases hy with
      | dk _ _ _ => exact h.elim
      | ins _ _ _ => exact h.elim
      | dct a c =>
        rw [if_neg (by rw [marked_dct]; simp), keysOf_dct, mem_some] at h
        exact ⟨_, b, k, _, _, rfl, rfl, Sub.unhide.sqT hb, (hide_some a).2, fun x hx => Sub.unhide.sqT (c x hx), Post.here h (.bl _)⟩
    · exact h.elim
  · exact h.elim
theorem ok_notInT : Ok2 K (rInT K true) oNotInT := by
  intro O H Wx x y d e Q al hx hy h
  unfold oNotInT at h
  split at h
  · split at h
    · rename_i k hk
      obtain ⟨b, rfl, hb⟩ := asTu_rp hx hk
      cases hy with
      | dk _ _ _ => exact h.elim
      | ins _ _ _ => exact h.elim
      | dct a c =>
        rw [if_neg (by rw [marked_dct]; simp), keysOf_dct, mem_some] at h
        exact ⟨_, b, k, _, _, rfl, rfl, Sub.unhide.sqT hb, (hide_some a).2, fun x hx => Sub.unhide.sqT (c x hx), Post.here h (.bl _)⟩
    · exact h.elim
  · exact h.elim
end
section
variable {X : Cx} {Tb : List Addr} {W : WX} {a b : Expr} {f g : Dn} {pos : Pos} {k : Nat}
theorem e_inT (hr : Room k X.A) (ha : PE X a (tD X.K Tb W f)) (hb : PE X b (tD X.K Tb W g)) (hm : behindInMarks .In b = false := by rfl) : PE X (.Compare a [.In] [b] pos) (tD X.K Tb W (dTwo oInT f g)) := fd_cmp (op_inT hr.u65) ok_inT ha hb hm
theorem t_notinT (hr : Room k X.A) (ha : PE X a (tD X.K Tb W f)) (hb : PE X b (tD X.K Tb W g)) (hm : behindInMarks .NotIn b = false := by rfl) : PT X (.Compare a [.NotIn] [b] pos) (tDT X.K Tb W (dAsB (dTwo oNotInT f g))) := ft_cmp (op_notInT hr.u65) ok_notInT ha hb hm
end
end PD
set_option Elab.async false
set_option linter.all false
set_option maxRecDepth 100000
set_option maxHeartbeats 1000000
namespace PD
open PySem PySem.Spec PyProof.Rows L2
section
variable (X : Cx) (s : Shared) (scope : Scope)
/-- the block's own environment -/
abbrev envBlk : Env := compEnvC scope (cellsFrom (s.heap.objs.size + 1) scope.names (cloFrom X.env.cells scope.names [])) s.heap.objs.size X.env
/-- the block's context -/
abbrev inBlk (H : Hp) (fp : List Addr) : Cx := X.blk s H scope (envBlk X s scope) fp
end
section
variable {X : Cx} {pins : List (Addr × Obj)} {σ : L2.St} {vs : List Nat} {s0 : Shared} {H0 : Hp} {scope : Scope} {fp : List Addr} {tn : Nat → Heap → Prop} {J : It} {tg : Expr} {it : Addr}
/-- a turn is about to start -/
structure AtTurn (X : Cx) (s0 : Shared) (H0 : Hp) (scope : Scope) (fp : List Addr) (tn : Nat → Heap → Prop) (τ : L2.St) (i : Nat) (H : Hp) (s : Shared) : Prop where
  inv : Inv (inBlk X s0 scope H0 fp) [] τ H s
  own : tn i s.heap
  hid : ∀ b ∈ fp, H b = none
theorem AtTurn.free {τ : L2.St} {i : Nat} {H : Hp} {s : Shared} (a : AtTurn X s0 H0 scope fp tn τ i H s) {b : Addr} (hb : b ∈ fp) : FpOk (inBlk X s0 scope H0 fp) [] H b := by
  have w := a.inv.ok.exf b hb
  refine ⟨a.hid b hb, w.1, a.inv.ok.exfs b hb, Or.inl hb, fun x c e => w.2 x c e, ?_⟩
  intro p hp
  simp [Cx.blk] at hp
theorem AtTurn.next {τ σ1 : L2.St} {i : Nat} {H1 : Hp} {s1 s2 : Shared} (T : Turn X.prog X.w X.K tg J fp it tn) (e : L2.wipe σ1 vs = L2.wipe σ vs) (t1 : tn i s1.heap)
    (I : Inv (inBlk X s0 scope H0 fp) ([] ++ pinsAt fp s1.heap) σ1 H1 s2) : AtTurn X s0 H0 scope fp tn (L2.wipe σ vs) i H1 s2 := by
  have same : ∀ b ∈ fp, ∀ o, s1.heap.get? b = some o → s2.heap.get? b = some o ∧ H1 b = none := by
    intro b hb o hbo
    have mem : (b, o) ∈ (inBlk X s0 scope H0 fp).pn ++ ([] ++ pinsAt fp s1.heap) := by
      rw [List.nil_append]
      exact List.mem_append_right _ (mem_pinsAt hb hbo)
    exact ⟨(I.pin _ mem).1, (I.pin _ mem).2.1⟩
  have wide : (L2.wipe σ vs).length = σ1.length := e ▸ wipe_length ..
  constructor
  · refine I.unpinned.weak wide ?_
    intro j v hj
    exact (wipe_some (e ▸ hj)).1
  · exact T.keep _ _ _ t1 fun b hb o hbo => (same b hb o hbo).1
  · intro b hb
    obtain ⟨o, hbo, -⟩ := T.obj _ _ t1 b hb
    exact (same b hb o hbo).2
/-- the def around the block, behind it -/
theorem AtTurn.leave {τ : L2.St} {H1 : Hp} {s1 : Shared} (I0 : Inv X pins σ H0 s0) (f0 : ∀ b ∈ fp, FpOk X pins H0 b) (I1 : Inv (inBlk X s0 scope H0 fp) [] τ H1 s1) :
    Inv X pins σ H1 s1 ∧ FpOk X pins H1 s0.heap.objs.size ∧ ∃ m, s1.heap.Ns s0.heap.objs.size m := by
  have fr : H1 s0.heap.objs.size = none := I1.free
  obtain ⟨m, hm, -⟩ := I1.loc
  refine ⟨I0.call' (ch := fp) I1.os I1.base I1.hok I1.bare ?_, I0.fpOk (Nat.le_refl _) fr, m, hm⟩
  intro b hb
  obtain ⟨-, b1, -, b3, b4, b5⟩ := f0 b hb
  exact ⟨b3, b1, b4, b5⟩
/-- what the rule asks of a turn -/
def keyTurn (K : PySem.W.Frag) (σ : L2.St) (vs : List Nat) (g : TG) (tt : TT) (tk : TE) (D : Addr) (Nx : Hp → Prop) (x : V) (H : Hp) : Prop :=
  g x (L2.wipe σ vs) H fun σ2 H2 => L2.wipe σ2 vs = L2.wipe σ vs ∧ tt σ2 H2 fun b H3 =>
    if b = true then tk σ2 H3 fun y H4 => ∃ ep xs p k, y = .ref p ∧ H4 D = some (dctO D ep xs) ∧ (∀ x ∈ xs, SqT K H4 x.2 (x.1.map V.int)) ∧ xs.length < sizeLine ∧ SqT K H4 p (k.map V.int) ∧ ∀ ep', Nx (upd H4 D (dctO D ep' (putT xs k p))) else Nx H3
def tDcT (K : PySem.W.Frag) (wi : TI) (g : TG) (tt : TT) (tk : TE) (vs : List Nat) : TE := fun σ H Q => wi σ H fun J H1 => ∀ D, H1 D = none → ∃ W : Nat → Nat → Hp → Prop, (∃ m, W 0 m (upd H1 D (dctO D 0 []))) ∧ ∀ i m H, W i m H →
  (J.stop i H ∧ Q (.ref D) H) ∨ (J.go i H ∧ ∃ Nx : Hp → Prop, (∀ H', Nx H' → ∃ m', m' < m ∧ W (i + 1) m' H') ∧ ∀ x H', J.yld i H x H' → keyTurn K σ vs g tt tk D Nx x H')
/-- all turns, from the first one on -/
theorem keyLoop {kx iter : Expr} {ifs : List Expr} {pos : Pos} {g : TG} {tt : TT} {tk : TE} {tpos : Pos} {tj : Nat} {D : Addr} {Q : VK} {R : Result → Shared → Prop} {W : Nat → Nat → Hp → Prop} {m0 : Nat}
    (hu : X.A.units < cLine) (hc : X.calm = true) (T : Turn X.prog X.w X.K tg J fp it tn)
    (pg : PG (inBlk X s0 scope H0 fp) tg g) (pt : PTs (inBlk X s0 scope H0 fp) ifs tt) (pk : PE (inBlk X s0 scope H0 fp) kx tk)
    (turn : ∀ i m H, W i m H → (J.stop i H ∧ Q (.ref D) H) ∨ (J.go i H ∧ ∃ Nx : Hp → Prop, (∀ H', Nx H' → ∃ m', m' < m ∧ W (i + 1) m' H') ∧ ∀ x H', J.yld i H x H' → keyTurn X.K σ vs g tt tk D Nx x H'))
    (over : ∀ H s, Inv (inBlk X s0 scope H0 fp) [] (L2.wipe σ vs) H s → Q (.ref D) H → R (.ok .next) s)
    {s : Shared} {H : Hp} (w0 : W 0 m0 H) (a0 : AtTurn X s0 H0 scope fp tn (L2.wipe σ vs) 0 H s) :
    codeAny (model X.prog X.w) X.A (.compLoop (.DictComp kx (.Constant (.bool true) tj tpos) [⟨tg, iter, ifs, 0⟩] scope pos) 0 (.ref it) (.ref D) (envBlk X s0 scope)) R s := by
  refine compLoop_anyD (fun m s => ∃ i H, AtTurn X s0 H0 scope fp tn (L2.wipe σ vs) i H s ∧ W i m H) ?_ m0 ⟨0, H, a0, w0⟩
  intro m s1 ⟨i, H1, a1, w1⟩
  cases turn i m H1 w1 with
  | inl z =>
    refine thnF (T.done (inBlk X s0 scope H0 fp) rfl rfl rfl hc i [] s1 _ H1 (fun _ _ => False) a1.inv (fun b => a1.free) a1.own z.1) ?_
    rintro r s2 ⟨rfl, I2⟩
    exact over H1 s2 I2 z.2
  | inr z =>
    obtain ⟨go, Nx, less, each⟩ := z
    refine thnF (T.item (inBlk X s0 scope H0 fp) rfl rfl rfl hc i [] s1 _ H1 (fun _ _ => False) a1.inv (fun b => a1.free) a1.own go) ?_
    rintro r s2 ⟨u, rfl, hu2⟩
    refine thnF hu2 ?_
    rintro _ s3 ⟨x, H3, I3, rx, hx, t3, n3⟩
    have a3 : AtTurn X s0 H0 scope fp tn (L2.wipe σ vs) (i + 1) H3 s3 := ⟨I3, t3, n3⟩
    have done : ∀ {σ4 : L2.St} {s5 : Shared} {H5 : Hp}, L2.wipe σ4 vs = L2.wipe σ vs → Inv (inBlk X s0 scope H0 fp) ([] ++ pinsAt fp s3.heap) σ4 H5 s5 → Nx H5 →
        ∃ m', m' < m ∧ ∃ i H, AtTurn X s0 H0 scope fp tn (L2.wipe σ vs) i H s5 ∧ W i m' H := by
      intro σ4 s5 H5 e I5 nx
      obtain ⟨m', lt, w⟩ := less H5 nx
      exact ⟨m', lt, i + 1, H5, AtTurn.next (τ := σ) T e t3 I5, w⟩
    refine thnF (pg.run _ s3 _ H3 x u _ (I3.pinned (fun b => a3.free) (T.obj _ _ t3)) rx (each x H3 hx)) ?_
    rintro _ s4 ⟨σ4, H4, I4, e4, q4⟩
    refine thnF (pt.run _ s4 σ4 H4 _ I4 q4) ?_
    rintro b s5 ⟨H5, I5, q5⟩
    rcases b with _ | _
    · exact done e4 I5 q5
    · refine thnF (pk.run _ s5 σ4 H5 _ I5 q5) ?_
      rintro kv s6 ⟨_, H6, I6, rk, ep, xs, p, k, rfl, hD, hks, hsz, hp, nx⟩
      cases rk
      exact Constant_bool (store_dct (X := inBlk X s0 scope H0 fp) hu I6 hD hks hsz hp fun ep7 s7 I7 => done e4 I7 (nx ep7))
end
section
variable {X : Cx} {kx tg iter : Expr} {ifs : List Expr} {scope : Scope} {own : List (Str × Nat)} {pos : Pos} {wi : TI} {g : TG} {tt : TT} {tk : TE} {tpos : Pos} {tj : Nat}
/-- the parts of such a comprehension, read -/
structure KeyParts (X : Cx) (kx tg iter : Expr) (ifs : List Expr) (scope : Scope) (own : List (Str × Nat)) (wi : TI) (g : TG) (tt : TT) (tk : TE) : Prop where
  line : X.A.units < cLine
  calm : X.calm = true
  nd : X.N.Nodup
  walk : PI X tg iter wi
  blk : BlkOk X.N X.env.scope scope own
  tgt : ∀ (s : Shared) (H : Hp) (fp : List Addr), PG (inBlk X s scope H fp) tg g
  test : ∀ (s : Shared) (H : Hp) (fp : List Addr), PTs (inBlk X s scope H fp) ifs tt
  key : ∀ (s : Shared) (H : Hp) (fp : List Addr), PE (inBlk X s scope H fp) kx tk
  plain : ∀ x, foldedSetIterable iter X.env x = pure x
theorem KeyParts.run (P : KeyParts X kx tg iter ifs scope own wi g tt tk) {pins : List (Addr × Obj)} {s : Shared} {σ : L2.St} {H : Hp} {Q : VK} {pos' : Pos} {use : Option (Value → Sem Unit)} {Qf : Value → Shared → Prop}
    (I : Inv X pins σ H s) (h : tDcT X.K wi g tt tk (own.map (·.2)) σ H Q)
    (hQ : ∀ D C s' m H', Inv X pins σ H' s' → Q (.ref D) H' → s'.heap.Ns C m → FpOk X pins H' C → compPost (model X.prog X.w) X.A X.xe use Qf (.ref D) C (.ok .next) s') :
    wpAny (model X.prog X.w) X.A (comprehension (.DictComp kx (.Constant (.bool true) tj tpos) [⟨tg, iter, ifs, 0⟩] scope pos) scope X.env pos' newDict false (eval iter X.env) use) Qf X.xe s := by
  have cells : ∀ y ∈ scope.names, y.2 = .free → ∃ c, X.env.cells.lookup y.1 = some c := by
    intro y hy e
    cases P.blk.free y hy e with
    | inl z => exact I.ok.has _ (.inl z)
    | inr z => exact I.ok.has _ (.inr z)
  have locs : ∀ y ∈ scope.names, y.2 = .local → scope.names.lookup y.1 = some .local := fun y hy e => (P.blk.uniq y hy).trans (congrArg some e)
  refine wpAny_comprehension_free (use := use) rfl P.plain (closure_ok cells) P.blk.kind locs ?_
  refine thn (P.walk.run pins s σ H _ I h) ?_
  intro x s1 h1
  refine thn h1 ?_
  rintro _ s2 ⟨it, fp, tn, J, H2, rfl, I2, T, t2, f2, h2⟩
  -- the dict
  refine wpAny_newObj_type ?_
  obtain ⟨W, ⟨m0, w0⟩, turn⟩ := h2 s2.heap.objs.size (I2.hok.fresh (Nat.le_refl _))
  have I3 : Inv X pins σ (upd H2 s2.heap.objs.size (dctO s2.heap.objs.size 0 [])) { s2 with heap := s2.heap.push { cls := .type "dict", data := .dict #[] } } :=
    I2.laid (t' := s2.toks) (fun b o e => Heap.get?_push_of_some _ e) (Nat.le_refl _)
      (dct_new s2.heap I2.big)
  have f3 : ∀ b ∈ fp, FpOk X pins (upd H2 s2.heap.objs.size (dctO s2.heap.objs.size 0 [])) b ∧ b < (s2.heap.push { cls := .type "dict", data := .dict #[] }).objs.size := by
    intro b hb
    obtain ⟨o, hbo, -⟩ := T.obj _ _ t2 b hb
    have lt : b < s2.heap.objs.size := Heap.lt_size hbo
    refine ⟨⟨(upd_ne (Nat.ne_of_lt lt)).trans (f2 b hb).1, (f2 b hb).2⟩, ?_⟩
    rw [Heap.size_push]
    exact Nat.lt_succ_of_lt lt
  have t3 : tn 0 (s2.heap.push { cls := .type "dict", data := .dict #[] }) := T.keep _ _ _ t2 fun b _ o e => Heap.get?_push_of_some _ e
  -- the block
  refine newEnv_comp ?_
  have t4 := T.keep _ _ (pushCells (((s2.heap.push { cls := .type "dict", data := .dict #[] })).push { cls := .type "dict", data := .dict #[] }) scope.names) t3 fun b _ o e => pushCells_keeps _ _ _ _ (Heap.get?_push_of_some _ e)
  have loop := keyLoop (σ := σ) (vs := own.map (·.2)) (pos := pos) (tpos := tpos) (tj := tj) (R := compPost (model X.prog X.w) X.A X.xe use Qf (.ref s2.heap.objs.size) (s2.heap.push { cls := .type "dict", data := .dict #[] }).objs.size) (iter := iter)
    P.line P.calm T (P.tgt _ _ fp) (P.test _ _ fp) (P.key _ _ fp) turn
    (fun H5 s5 I5 q => by
      obtain ⟨I6, f6, m, hm⟩ := AtTurn.leave I3 (fun b hb => (f3 b hb).1) I5
      exact hQ _ _ s5 m H5 I6 q hm f6)
    w0 ⟨block_start I3 P.blk P.nd f3, t4, fun b hb => (f3 b hb).1.1⟩
  exact codeAny_compStart_dict loop (T.self X.A 0 _ _ _ t4 loop)
theorem KeyParts.of (hu : X.A.units < cLine) (hc : X.calm = true) (hN : X.N.Nodup) (hi : PI X tg iter wi) (ok : BlkOk X.N X.env.scope scope own)
    (hg : ∀ (s : Shared) (H : Hp) (C : Addr) (cl : List (Str × Addr)) (fp : List Addr), PG (X.blk s H scope (compEnvC scope cl C X.env) fp) tg g) (ht : ∀ (s : Shared) (H : Hp) (C : Addr) (cl : List (Str × Addr)) (fp : List Addr), PTs (X.blk s H scope (compEnvC scope cl C X.env) fp) ifs tt)
    (hk : ∀ (s : Shared) (H : Hp) (C : Addr) (cl : List (Str × Addr)) (fp : List Addr), PE (X.blk s H scope (compEnvC scope cl C X.env) fp) kx tk)
    (hs : ∀ x, foldedSetIterable iter X.env x = pure x) : KeyParts X kx tg iter ifs scope own wi g tt tk :=
  ⟨hu, hc, hN, hi, ok, fun s H fp => hg s H _ _ fp, fun s H fp => ht s H _ _ fp, fun s H fp => hk s H _ _ fp, hs⟩
end
end PD
set_option Elab.async false
set_option linter.all false
set_option maxRecDepth 100000
set_option maxHeartbeats 1000000
namespace PD
open PySem PySem.Spec PyProof.Rows L2
def keyD (k : List Int) : PyData × PyData := (.tuple (k.map .int), .bool true)
theorem putT_keys (xs : List (List Int × Addr)) (k : List Int) (b : Addr) : (putT xs k b).map (·.1) = if k ∈ xs.map (·.1) then xs.map (·.1) else xs.map (·.1) ++ [k] := by
  unfold putT
  split
  · rfl
  · rw [List.map_append]; rfl
section
variable {K : PySem.W.Frag} {Tb : List Addr} {H0 H H1 : Hp} {O0 O : List Addr} {ρ : Rho} {σ : L2.St} {D p : Addr}
/-- an object of the ext kind that no heap of code objects alone makes true -/
def codeHeap (n : Nat) (q : Str) : Heap := { objs := Array.replicate n { cls := .none, data := .fields #[.none, .str q 0] } }
theorem codeHeap_get {n : Nat} {q : Str} {a : Addr} {o : Obj} (h : (codeHeap n q).get? a = some o) : o.data = .fields #[.none, .str q 0] := by
  unfold codeHeap Heap.get? at h
  dsimp only at h
  rw [Array.getElem?_replicate] at h
  by_cases z : a < n
  · rw [if_pos z] at h
    cases h
    rfl
  · rw [if_neg z] at h
    cases h
theorem plain_ext {φ : Heap → Prop} (h : ∀ n q, ¬ φ (codeHeap n q)) : Plain (HO.ext φ) := ⟨fun c q e => by
  unfold LamX.CodeO at e
  injection e with e
  have z := congrFun e (codeHeap (c + 1) q)
  refine h (c + 1) q (z.symm ▸ ⟨{ cls := .none, data := .fields #[.none, .str q 0] }, #[.none, .str q 0], 0, ?_, rfl, rfl⟩)
  unfold Heap.get? codeHeap
  simp, fun _ e => by cases e⟩
theorem plain_dct (a : Addr) (ep : Nat) (xs : List (List Int × Addr)) : Plain (dctO a ep xs) := plain_ext fun n q ⟨_, _, _, o, es, h1, _, h3, _⟩ => by
  rw [codeHeap_get h1] at h3
  cases h3
end
section
variable {X : Cx} {Tb : List Addr} {W : WX}
variable {a : Expr} {f : Dn} {pos : Pos}
theorem ft_isN {j pos'} (ha : PE X a (tD X.K Tb W f)) : PT X (.Compare a [.Is] [.Constant .none j pos'] pos) (tDT X.K Tb W (dAsB (dOne (fun d => .ok (.bool (isNone d))) f))) := (pt_cmp (pc_isN ha) rfl).by fun σ H Q h => by
  obtain ⟨H0, O0, O, ρ, st, h⟩ := h
  refine ⟨H0, O0, O, ρ, st, Post.then (f := fun d => R.ok (isNone d)) (Rl' := RlB) (Q' := Q) ?_ fun d v H1 e r k => ?_⟩
  · have e : (f ρ >>= fun d => R.ok (isNone d)) = dAsB (dOne (fun d => .ok (.bool (isNone d))) f) ρ := by
      show _ = ((f ρ >>= fun d => R.ok (PyData.bool (isNone d))) >>= asB)
      cases f ρ <;> rfl
    rw [e]; exact h
  · have : decide (v = .non) = isNone d := by cases r <;> simp [isNone, dkD, obD]
    rw [this]
    exact ⟨_, rfl, k _ H1 (Ext.refl _) rfl⟩
theorem ft_notN {j pos'} (ha : PE X a (tD X.K Tb W f)) : PT X (.Compare a [.IsNot] [.Constant .none j pos'] pos) (tDT X.K Tb W (dAsB (dOne (fun d => .ok (.bool (!isNone d))) f))) := (pt_cmp (pc_notN ha) rfl).by fun σ H Q h => by
  obtain ⟨H0, O0, O, ρ, st, h⟩ := h
  refine ⟨H0, O0, O, ρ, st, Post.then (f := fun d => R.ok (!isNone d)) (Rl' := RlB) (Q' := Q) ?_ fun d v H1 e r k => ?_⟩
  · have e : (f ρ >>= fun d => R.ok (!isNone d)) = dAsB (dOne (fun d => .ok (.bool (!isNone d))) f) ρ := by
      show _ = ((f ρ >>= fun d => R.ok (PyData.bool (!isNone d))) >>= asB)
      cases f ρ <;> rfl
    rw [e]; exact h
  · have : decide (v = .non) = isNone d := by cases r <;> simp [isNone, dkD, obD]
    rw [this]
    exact ⟨_, rfl, k _ H1 (Ext.refl _) rfl⟩
end
end PD
set_option Elab.async false
set_option linter.all false
set_option maxRecDepth 100000
set_option maxHeartbeats 1000000
namespace PD
open PySem PySem.Spec PyProof.Rows L2
end PD
set_option Elab.async false
set_option linter.all false
set_option maxRecDepth 100000
set_option maxHeartbeats 1000000
namespace PD
open PySem PySem.Spec PyProof.Rows L2
/-- t <= u: u does not come before t -/
def leT (ns ms : List Int) : Bool := !(HT.lexLt ms ns)
end PD
set_option Elab.async false
set_option linter.all false
set_option maxRecDepth 100000
set_option maxHeartbeats 1000000
namespace PD
open PySem PySem.Spec PyProof.Rows L2
def SqX (K : PySem.W.Frag) (H : Hp) (tp : Bool) (a : Addr) (xs : List V) : Prop := match tp with
  | true => SqT K H a xs
  | false => SqL K H a xs
def ItX (h : Heap) (tp : Bool) (it a : Addr) (i : Nat) : Prop := match tp with
  | true => h.IsTupleIter it a i
  | false => h.IsListIter it a i
def PlX (h : Heap) (tp : Bool) (a : Addr) (its : Array Value) : Prop := match tp with
  | true => h.IsTuple a its
  | false => h.IsList a its
def itO (tp : Bool) (a : Addr) : Obj := match tp with
  | true => { cls := .type "tuple_iterator", data := .fields #[.ref a, .int 0 0] }
  | false => { cls := .type "list_iterator", data := .fields #[.ref a, .int 0 0] }
theorem drawsX {prog : Program} {w : World} {A : Around} (hh : A.handled = none) (tp : Bool) {it a : Addr} (ne : a ≠ it) (its : Array Value) :
    Draws prog w A it [it, a] its.size (fun i v => its[i]? = some v) (fun i h => ItX h tp it a i ∧ PlX h tp a its) := by
  cases tp with
  | true => exact Draws.tuple hh it a ne its
  | false => exact Draws.list hh it a ne its
theorem beginsX (tp : Bool) (a : Addr) (its : Array Value) : Begins (.ref a) (itO tp a) (fun h => PlX h tp a its) := by
  cases tp with
  | true => exact begins_tuple a its
  | false => exact begins_list a its
theorem itX_new {h : Heap} {tp : Bool} {it a : Addr} (e : h.get? it = some (itO tp a)) : ItX h tp it a 0 := by
  cases tp with
  | true => exact ⟨_, e, rfl, rfl⟩
  | false => exact ⟨_, e, rfl, rfl⟩
theorem ItX.obj {h : Heap} {tp : Bool} {it a : Addr} {i : Nat} (x : ItX h tp it a i) : ∃ o, h.get? it = some o ∧ ∀ v, o.data ≠ .cell v := by
  cases tp with
  | true =>
    obtain ⟨o, e, _, d⟩ := x
    exact ⟨o, e, fun v q => by rw [d] at q; cases q⟩
  | false =>
    obtain ⟨o, e, _, d⟩ := x
    exact ⟨o, e, fun v q => by rw [d] at q; cases q⟩
theorem ItX.at {h h' : Heap} {tp : Bool} {it a : Addr} {i : Nat} (x : ItX h tp it a i) (e : ∀ o, h.get? it = some o → h'.get? it = some o) : ItX h' tp it a i := by
  cases tp with
  | true => exact Heap.IsTupleIter.at x e
  | false => exact Heap.IsListIter.at x e
section
variable {X : Cx} {pins : List (Addr × Obj)} {σ : L2.St} {H : Hp} {s : Shared} {tp : Bool} {a : Addr} {xs ys : List V}
theorem sqX_read (I : Inv X pins σ H s) (h : SqX X.K H tp a xs) : ∃ its : List Value, Vals xs its ∧ PlX s.heap tp a its.toArray := by
  cases tp with
  | true =>
    obtain ⟨its, rv, p, _⟩ := I.tuple h
    exact ⟨its, rv, p⟩
  | false =>
    obtain ⟨its, rv, p, _⟩ := I.list h
    exact ⟨its, rv, p.isList⟩
theorem sqX_inj (I : Inv X pins σ H s) (h : SqX X.K H tp a xs) (h' : SqX X.K H tp a ys) : xs = ys := by
  cases tp with
  | true => exact I.tuple_inj h h'
  | false => exact I.list_inj h h'
theorem PlX.lt {h : Heap} {its : Array Value} (p : PlX h tp a its) : a < h.objs.size := by
  cases tp with
  | true => obtain ⟨_, e, _⟩ := p; exact Heap.lt_size e
  | false => obtain ⟨_, e, _⟩ := p; exact Heap.lt_size e
theorem SqX.step {K : PySem.W.Frag} {G G' : Hp} (s : Sub G G') (h : SqX K G tp a xs) : SqX K G' tp a xs := by
  cases tp with
  | true => exact s.sqT h
  | false => exact s.sqL h
end
def Ige (K : PySem.W.Frag) (tp : Bool) (a : Addr) (k : Int) : It where
  go i H := ∃ (xs : List V) (x : V), SqX K H tp a xs ∧ xs[i]? = some x
  yld i H v H' := ∃ T x, v = .ref T ∧ H T = none ∧ H' = upd H T (.tup [.int (k + (i : Nat)), x]) ∧ ∀ xs, SqX K H tp a xs → xs[i]? = some x
  stop i H := ∃ xs : List V, SqX K H tp a xs ∧ xs.length = i
theorem turn_enumX {P : Program} {w : World} {K : PySem.W.Frag} {elts : List Expr} {kk : Nat} {tpos : Pos} {tp : Bool} {k : Int} {a e it : Addr} (n1 : e ≠ it) (n2 : a ≠ it) (n3 : a ≠ e) :
    Turn P w K (.Tuple elts kk tpos) (Ige K tp a k) [e, it] e (fun i h => (∃ old, IsEnum h e it (k + (i : Nat)) old) ∧ ItX h tp it a i) where
  mem := List.mem_cons_self
  obj := fun i h ⟨⟨old, he⟩, hi⟩ b hb => by
    rcases List.mem_cons.mp hb with z | z
    · subst z
      exact ⟨_, he, fun v q => nomatch q⟩
    · cases List.mem_singleton.mp z
      exact hi.obj
  keep := fun i h h' ⟨⟨old, he⟩, hi⟩ q => ⟨⟨old, q e List.mem_cons_self _ he⟩, hi.at fun o z => q it (List.mem_cons_of_mem _ List.mem_cons_self) o z⟩
  item := by
    intro X hP hw hK hc i pins s σ H E I hf st hg
    cases hP; cases hw; cases hK
    obtain ⟨⟨old, he⟩, hit⟩ := st
    obtain ⟨xs, x, hq, hx⟩ := hg
    obtain ⟨its, rv, p⟩ := sqX_read I hq
    obtain ⟨u, hu, ru⟩ := rv.get hx
    have big : e < s.heap.objs.size := Heap.lt_size he
    have lti : i < its.toArray.size := by
      obtain ⟨z, _⟩ := List.getElem?_eq_some_iff.mp hu
      simpa using z
    have D := drawsX (prog := X.prog) (w := X.w) (A := X.A.in1) (I.ok.hd hc) tp n2 its.toArray
    refine wpAny_pyNext_enum_itemC D he ⟨hit, p⟩ lti n1 (by simp only [List.mem_cons, List.not_mem_nil, or_false, not_or]; exact ⟨n1, n3.symm⟩) fun y h1 tk hy ho st1 hT hsz hk => ?_
    have ey : y = u := by
      have hy : its.toArray[i]? = some y := hy
      rw [List.getElem?_toArray, hu] at hy
      exact (Option.some.inj hy).symm
    subst ey
    refine ⟨_, rfl, wpAny_letOwnedTupleGo_enum (s := { s with heap := h1, toks := tk + 1 }) ho fun h2 he2 sb => ?_⟩
    have hT2 : h2.get? s.heap.objs.size = some { cls := .type "tuple", data := .seq #[.int (k + (i : Nat)) tk, y] } := (sb.2 _ (Nat.ne_of_gt big)).trans hT
    have fresh : ObjOk X.prog X.w (upd H s.heap.objs.size (.tup [.int (k + (i : Nat)), x])) h2 s.heap.objs.size (.tup [.int (k + (i : Nat)), x]) :=
      ⟨by show 2 ≤ sizeLine; rw [sizeLine_eq]; decide, [.int (k + (i : Nat)) tk, y], .cons ⟨_, rfl⟩ (.cons ru .nil), ⟨_, hT2, rfl, _, rfl⟩⟩
    have I1 : Inv X pins σ (upd H s.heap.objs.size (.tup [.int (k + (i : Nat)), x])) { s with heap := h2, toks := tk + 1 } :=
      I.turnedNew (ch := [e, it]) (fun b ob hb q => by
        rw [List.mem_cons, List.mem_singleton, not_or] at hb
        exact (sb.2 b hb.1).trans (hk b ob hb.1 hb.2 q)) hf (Nat.le_refl _) fresh
    refine ⟨.ref s.heap.objs.size, _, I1, rfl, ⟨_, x, rfl, I.hok.fresh (Nat.le_refl _), rfl, fun ys hy => by rw [sqX_inj I hy hq]; exact hx⟩, ⟨⟨y, ?_⟩, st1.1.at fun o q => (sb.2 it n1.symm).trans q⟩, fun b hb => ?_⟩
    · rw [show k + ((i + 1 : Nat) : Int) = k + (i : Int) + 1 by omega]
      exact he2
    · have hb2 : b < s.heap.objs.size := by
        rcases List.mem_cons.mp hb with z | z
        · rw [z]; exact big
        · rw [List.mem_singleton.mp z]
          obtain ⟨o, q, _⟩ := hit.obj
          exact Heap.lt_size q
      rw [upd_ne (Nat.ne_of_lt hb2)]
      exact (hf b hb).1
  done := by
    intro X hP hw hK hc i pins s σ H E I hf st hg
    cases hP; cases hw; cases hK
    obtain ⟨⟨old, he⟩, hit⟩ := st
    obtain ⟨xs, hq, hx⟩ := hg
    obtain ⟨its, rv, p⟩ := sqX_read I hq
    have D := drawsX (prog := X.prog) (w := X.w) (A := X.A.in1) (I.ok.hd hc) tp n2 its.toArray
    have el : i = its.toArray.size := by
      have := rv.length
      simp
      omega
    subst el
    obtain ⟨f0, f1, f2, f3, f4, f5⟩ := hf it (List.mem_cons_of_mem _ List.mem_cons_self)
    exact wpAny_pyNext_enum_endD D he ⟨hit, p⟩ fun h' eb => ⟨rfl, I.turned (t' := s.toks) (fun b o hb q => eb b o hb q) f0 f1 f3 f4 f5⟩
  self := fun A i s Q E ⟨⟨_, he⟩, _⟩ h => wpAny_pyIter_enum he h
theorem enum_new1 {v : Value} {o : Obj} {Hq : Heap → Prop} (B : Begins v o Hq) :
    Meets (Builtin.«enumerate.__new__» ⟨[.type "enumerate", v], []⟩) (fun _ R s => Hq s.heap ∧
      R (.ok (.ret (.ref (s.heap.push o).objs.size))) { s with heap := (s.heap.push o).push { cls := .type "enumerate", data := .fields #[.none, .bool false, .ref s.heap.objs.size, rawInt 0, .none, .none] } }) :=
  .of_wp fun prog w A R s h => by
    obtain ⟨hp, g, d, tk, os⟩ := s
    obtain ⟨h1, h⟩ := h
    have hsub := sub_enumerate
    have q1 : ∀ {A1 : Around} {E : Value → Shared → Prop} {Q : Value → Shared → Prop}, Q (.ref hp.objs.size) ⟨hp.push o, g, d, tk, os⟩ → wpAny (model prog w) A1 (pyIter v) Q E ⟨hp, g, d, tk, os⟩ :=
      fun q => B.iter prog w _ _ ⟨hp, g, d, tk, os⟩ _ h1 q
    wp_walk using q1
    refine wpAny_stack_any fun st => wpAny_pure ?_
    split
    · rename_i c _ _ _ _ _
      cases (c == Value.type "enumerate") <;> wp_walk using q1 <;> exact ⟨_, rfl, h⟩
    · wp_walk using q1
      exact ⟨_, rfl, h⟩
theorem enum_begins1 {prog : Program} {w : World} {A : Around} {E : Value → Shared → Prop} {s : Shared} {v : Value} {o : Obj} {Hq : Heap → Prop} {Q : Value → Shared → Prop} (B : Begins v o Hq) (h1 : Hq s.heap)
    (h : ∀ h', IsEnum h' (s.heap.objs.size + 1) s.heap.objs.size 0 .none → h'.get? s.heap.objs.size = some o → (∀ b o, s.heap.get? b = some o → h'.get? b = some o) → Q (.ref (s.heap.objs.size + 1)) { s with heap := h' }) :
    wpAny (model prog w) A (call (.type "enumerate") [v]) Q E s := by
  refine callType_new F.called_enumerate (by decide) (F.typeCall_enumerate_1 _) (F.newCall_enumerate_1 _) (fun obj => F.args_object_init_2 obj _) F.entry_enumerate_new (enum_new1 B) ⟨h1, ?_⟩
  have hz : (s.heap.push o).objs.size = s.heap.objs.size + 1 := Heap.size_push ..
  show _ ∧ _
  rw [hz]
  have he : IsEnum ((s.heap.push o).push { cls := .type "enumerate", data := .fields #[.none, .bool false, .ref s.heap.objs.size, rawInt 0, .none, .none] }) (s.heap.objs.size + 1) s.heap.objs.size 0 .none := by
    have := Heap.get?_push_size (s.heap.push o) (o := { cls := .type "enumerate", data := .fields #[.none, .bool false, .ref s.heap.objs.size, rawInt 0, .none, .none] }) rfl
    rw [hz] at this
    exact this
  exact ⟨⟨_, he, rfl⟩, h _ he (Heap.get?_push_of_some _ (Heap.get?_push_size _ B.free)) fun b o x => Heap.get?_push_of_some _ (Heap.get?_push_of_some _ x)⟩
def iEnumX (K : PySem.W.Frag) (ta : TA) : TI := fun σ H R => ta σ H fun vs H1 => ∃ tp a xs, vs = [.ref a] ∧ SqX K H1 tp a xs ∧ R (Ige K tp a 0) H1
theorem pi_enumX {X : Cx} {e : Expr} {ta : TA} {p pos tpos : Pos} {elts : List Expr} {kk : Nat} (hg : Gl X "enumerate") (hm : X.mg "enumerate" = none) (ha : PA X [e] ta) (hs : starEach [e] X.env = [(false, eval e X.env)] := by rfl) :
    PI X (.Tuple elts kk tpos) (.Call (.Name "enumerate" p) [e] [] pos) (iEnumX X.K ta) := by
  refine ⟨fun pins s σ H R I h => Call_ (ld_blt I hg hm boot_enumerate (PyProof.Rows.callWith_type1 (thn (ha.run pos pins s σ H _ I h) fun us s1 ⟨vs, H1, I1, r1, q1⟩ => ?_) hs rfl))⟩
  obtain ⟨tp, a, xs, rfl, hq, q⟩ := q1
  cases r1 with
  | cons r rr =>
    cases rr
    cases r
    obtain ⟨its, rv, p'⟩ := sqX_read I1 hq
    have la := p'.lt
    refine enum_begins1 (beginsX tp a its.toArray) p' fun h' he hit hk => wpAny_pyIter_enum he ?_
    have I2 : Inv X pins σ H1 { s1 with heap := h' } := I1.kept (t' := s1.toks) hk
    refine ⟨s1.heap.objs.size + 1, [s1.heap.objs.size + 1, s1.heap.objs.size], _, _, H1, rfl, I2, turn_enumX (e := s1.heap.objs.size + 1) (it := s1.heap.objs.size) (k := 0) (Nat.succ_ne_self _) (Nat.ne_of_lt la) (Nat.ne_of_lt (Nat.lt_succ_of_lt la)), ⟨⟨.none, he⟩, itX_new hit⟩, fun b hb => ?_, q⟩
    have hle : s1.heap.objs.size ≤ b := by
      rcases List.mem_cons.mp hb with z | z
      · rw [z]; exact Nat.le_succ _
      · rw [List.mem_singleton.mp z]; exact Nat.le_refl _
    exact I1.fpOk hle (I1.hok.fresh hle)
def enumF (k : Int) : List PyData → List PyData
  | [] => []
  | d :: ds => .tuple [.int k, d] :: enumF (k + 1) ds
theorem enumF_len (k : Int) : ∀ ds : List PyData, (enumF k ds).length = ds.length
  | [] => rfl
  | d :: ds => by simp [enumF, enumF_len (k + 1) ds]
theorem enumF_get : ∀ {k : Int} {ds : List PyData} {i : Nat} {d : PyData}, ds[i]? = some d → (enumF k ds)[i]? = some (.tuple [.int (k + (i : Nat)), d])
  | k, d :: ds, 0, e, h => by
    cases h
    simp [enumF]
  | k, d :: ds, i + 1, e, h => by
    have := enumF_get (k := k + 1) (ds := ds) (i := i) (d := e) (by simpa using h)
    simp only [enumF, List.getElem?_cons_succ, this]
    congr 4
    omega
  | k, [], i, e, h => by simp at h
section
variable {K : PySem.W.Frag} {G H H' H'' : Hp} {O O' : List Addr} {a : Addr} {ds : List PyData} {xs : List V} {tp : Bool}
theorem itd_enum {k : Int} (h : SqX K G tp a xs) (z : ds.length ≤ sizeLine) (r : RpAll K G xs ds) : ItD K G (Ige K tp a k) (enumF k ds) where
  len := by rw [enumF_len]; exact z
  go := fun i H' e hi => by
    rw [enumF_len] at hi
    have hx : i < xs.length := by rw [r.length]; exact hi
    exact ⟨xs, xs[i], h.step (Sub.ext e), List.getElem?_eq_getElem hx⟩
  yld := fun i H' O' x H'' e n al hi y => by
    obtain ⟨T, v, rfl, nT, rfl, y⟩ := y
    obtain ⟨d, h1, h2⟩ := r.get (y xs (h.step (Sub.ext e)))
    refine ⟨Ext.new nT, _, enumF_get h1, .tup (.of ?_) (by show 2 ≤ sizeLine; rw [sizeLine_eq]; decide) (.cons (.int _) (.cons (h2.mono ?_) .nil))⟩
    · rw [hide_out fun m => al T m nT, upd_same]
    · exact ((e.trans (Ext.new nT)).under n)
  stop := fun H' e => ⟨xs, h.step (Sub.ext e), by rw [enumF_len]; exact r.length⟩
end
def enumA : List PyData → R (List PyData)
  | [d] => items d >>= fun ds => .ok (enumF 0 ds)
  | _ => .bad
def dEnum (g : DnL) : DnL := fun ρ => g ρ >>= enumA
theorem rp_items {K : PySem.W.Frag} {G : Hp} {v : V} {d : PyData} {ds : List PyData} (r : Rp K G v d) (h : items d = .ok ds) : ∃ tp a xs, v = .ref a ∧ SqX K G tp a xs ∧ ds.length ≤ sizeLine ∧ RpAll K G xs ds := by
  unfold items at h
  split at h
  · cases h
    cases r with
    | lst h1 z1 a1 => exact ⟨false, _, _, rfl, h1, z1, a1⟩
  · cases h
    cases r with
    | tup h1 z1 a1 => exact ⟨true, _, _, rfl, h1, z1, a1⟩
  · cases h
theorem items_no {d : PyData} {x : Ex} : items d ≠ .exc x := by unfold items; split <;> exact fun h => by cases h
theorem fi_enum {X : Cx} {Tb : List Addr} {W : WX} {e : Expr} {g : DnL} {p pos tpos : Pos} {elts : List Expr} {kk : Nat} (hg : Gl X "enumerate") (hm : X.mg "enumerate" = none) (ha : PA X [e] (tDs X.K Tb W g)) (hs : starEach [e] X.env = [(false, eval e X.env)] := by rfl) :
    PI X (.Tuple elts kk tpos) (.Call (.Name "enumerate" p) [e] [] pos) (tI X.K Tb W (dEnum g)) := (pi_enumX hg hm ha hs).by fun σ H R ⟨H0, O0, O, ρ, st, h⟩ => ⟨H0, O0, O, ρ, st, by
  refine Post.then h fun d v H1 ex r k => ?_
  unfold enumA at k
  split at k
  · rename_i d0
    cases r with
    | cons r1 r2 =>
      cases r2
      cases hi : items d0 with
      | bad => rw [hi] at k; exact k.elim
      | exc x => exact absurd hi items_no
      | ok ds =>
        rw [hi] at k
        obtain ⟨tp, a, xs, rfl, h1, z1, a1⟩ := rp_items r1 hi
        exact ⟨tp, a, xs, rfl, h1.step Sub.unhide, k _ H1 (Ext.refl _) (itd_enum h1 z1 a1)⟩
  · exact k.elim⟩
def zipD : List PyData → List PyData → List PyData
  | d :: ds, e :: es => .tuple [d, e] :: zipD ds es
  | _, _ => []
def zipA : List PyData → R (List PyData)
  | [d, e] => items d >>= fun ds => items e >>= fun es => .ok (zipD ds es)
  | _ => .bad
def dZip (g : DnL) : DnL := fun ρ => g ρ >>= zipA
end PD
set_option Elab.async false
set_option linter.all false
set_option maxRecDepth 100000
set_option maxHeartbeats 1000000
namespace PD
open PySem PySem.Spec PyProof.Rows L2
structure LamS1 (sc scope : Scope) (x : Str) : Prop where
  kind : scope.kind = .function
  co : scope.isCoroutine = false
  gen : scope.isGenerator = false
  par : scope.names.lookup x = some .local
  cell : ∀ y ∈ scope.names, y.2 ≠ .cell
  loc : ∀ y ∈ scope.names, y.2 = .local → y.1 = x
  free : ∀ y ∈ scope.names, y.2 = .free → sc.names.lookup y.1 = some .cell ∨ sc.names.lookup y.1 = some .free
theorem LamS1.has {X : Cx} {scope : Scope} {x : Str} (L : LamS1 X.env.scope scope x) (ok : X.Ok) : ∀ y ∈ scope.names, y.2 = .free → ∃ c, X.env.cells.lookup y.1 = some c := fun y hy e => by
  rcases L.free y hy e with k | k
  · exact ok.has _ (.inl k)
  · exact ok.has _ (.inr k)
end PD
set_option Elab.async false
set_option linter.all false
set_option maxRecDepth 100000
set_option maxHeartbeats 1000000
namespace PD
open PySem PySem.Spec PyProof.Rows L2
theorem PlX.at {h h' : Heap} {tp : Bool} {a : Addr} {its : Array Value} (p : PlX h tp a its) (e : ∀ o, h.get? a = some o → h'.get? a = some o) : PlX h' tp a its := by
  cases tp with
  | true => exact Heap.IsTuple.at p e
  | false => exact Heap.IsList.at p e
end PD
set_option Elab.async false
set_option linter.all false
set_option maxRecDepth 100000
set_option maxHeartbeats 1000000
namespace PD
open PySem PySem.Spec PyProof.Rows L2
end PD
set_option Elab.async false
set_option linter.all false
set_option maxRecDepth 100000
set_option maxHeartbeats 1000000
namespace PD
open PySem PySem.Spec PyProof.Rows L2
theorem pget_list {X : Cx} : PGet X (rIxL X.K) := by
  intro pins s σ H o i ov iv Q I ro ri h
  obtain ⟨p, xs, k, z, rfl, rfl, hq, he, q⟩ := h
  cases ro
  obtain ⟨t, rfl⟩ := ri
  obtain ⟨its, r, pl, hz⟩ := I.list hq
  obtain ⟨j, h1, h2, h3, h4, h5⟩ := atI_get he
  obtain ⟨w, ew, rw'⟩ := r.get h2
  have hl := r.length
  have hn := line63
  have fin : EP X pins σ Q w s := ⟨z, H, I, rw', q⟩
  by_cases h0 : 0 ≤ k
  · have hj : k.toNat = j := by
      rw [seqIndex_of h0 h5] at h1
      exact Option.some.inj h1
    exact wpAny_getItem_list pl.isList h0 (by omega) (by rw [hj]; simpa using ew) fin
  · have hj : (k + (its.toArray.size : Int)).toNat = j := by
      rw [seqIndex_neg (by omega) h4] at h1
      rw [List.size_toArray, ← hl]
      exact Option.some.inj h1
    exact wpAny_getItem_list_neg pl.isList (by omega) (by rw [List.size_toArray] <;> omega) (by omega) (by rw [hj]; simpa using ew) fin
def gSetAt (i : Nat) (fi fe : Dn) : Sn := fun ρ => oR (fe ρ) ρ fun y => ownAt ρ i fun ds => match fi ρ with
  | .ok (.int k) => match ixN ds.length k with
    | some j => .nx (ρ.set i (some (.own (ds.set j y))))
    | none => .bad
  | _ => .bad
end PD
set_option Elab.async false
set_option linter.all false
set_option maxRecDepth 100000
set_option maxHeartbeats 1000000
namespace PD
open PySem PySem.Spec PyProof.Rows L2
end PD
set_option Elab.async false
set_option linter.all false
set_option maxRecDepth 100000
namespace PD
open PySem PySem.Spec PyProof.Rows L2
end PD
set_option Elab.async false
set_option linter.all false
set_option maxRecDepth 100000
set_option maxHeartbeats 1000000
namespace PD
open PySem PySem.Spec PyProof.Rows L2
def insU (x : Int) : List Int → List Int
  | [] => [x]
  | y :: l => if x < y then x :: y :: l else if x = y then y :: l else y :: insU x l
def uniq (l : List Int) : List Int := l.foldr insU []
end PD
set_option Elab.async false
set_option linter.all false
set_option maxRecDepth 100000
set_option maxHeartbeats 1000000
namespace PD
open PySem PySem.Spec PyProof.Rows L2
section
variable {K : PySem.W.Frag} {Tb : List Addr} {W : WX} {H0 H0' H H' : Hp} {O0 O : List Addr} {ρ : Rho} {σ : L2.St} {p : Addr} {D : Ends}
/-- the object that slot i owns changes -/
theorem St0.holdSet {i : Nat} {s0 s1 : Sl} {o o' : HO} (z0 : s0.Hold) (z1 : s1.Hold) (st : St0 K Tb H0 O0 O H σ ρ) (hi : ρ[i]? = some (some s0)) (hp : σ[i]? = some (some (.ref p))) (hH : H p = some o) (po : Plain o) (po' : Plain o') (nx : ∀ fs, o ≠ .xd fs) (r : SlotR K O0 O (upd H p o') (.ref p) s1) :
    St0 K Tb H0 O0 O (upd H p o') σ (ρ.set i (some s1)) := by
  obtain ⟨m, m0⟩ := st.hold z0 hi hp
  have il : i < ρ.length := (List.getElem?_eq_some_iff.mp hi).1
  have own : ∀ (j : Nat) (s : Sl), s.Hold → j ≠ i → ρ[j]? = some (some s) → σ[j]? ≠ some (some (.ref p)) := fun j s hs hj h1 h2 => hj (st.inj j i p s s0 hs z0 h1 hi h2 hp)
  refine ⟨st.ext.updN (st.new p m m0) (fun c q z => po.1 c q (Option.some.inj (hH.symm.trans z))), st.sub, st.new, fun b h => ?_, fun P mp => ?_, fun b mb nb => ?_, by rw [List.length_set]; exact st.len, fun j x h => ?_, fun j k q xs ys hx hy h1 h2 h3 h4 => ?_⟩
  · by_cases hb : b = p
    · rw [hb, upd_same]; simp
    · rw [upd_ne hb]; exact st.al b h
  · have hb : P ≠ p := tabG_ne (st.tab P mp) fun ps q => by rw [hH] at q; exact po.2 ps (Option.some.inj q)
    exact (st.tab P mp).mono (fun ps h => by rw [upd_ne hb]; exact h) fun c q h => by
      rw [upd_ne fun z => po.1 c q (Option.some.inj (hH.symm.trans (by rw [← z]; exact h)))]
      exact h
  · by_cases hb : b = p
    · exact ⟨_, by rw [hb]; exact upd_same, po'⟩
    · obtain ⟨x, h, q⟩ := st.pln b mb nb
      exact ⟨x, by rw [upd_ne hb]; exact h, q⟩
  · by_cases e : i = j
    · subst e
      rw [List.getElem?_set_self il] at h
      cases h
      exact ⟨_, hp, r⟩
    · rw [List.getElem?_set_ne e] at h
      obtain ⟨v, h1, h2⟩ := st.slot j x h
      refine ⟨v, h1, h2.mv (by rw [hide_upd m]; exact fun _ _ h _ => h) (fun hx q ev mq _ => ⟨mq, fun o hq _ => ?_⟩) fun dd fs h => ?_⟩
      · have hne : q ≠ p := fun e2 => own j x hx (fun z => e z.symm) h (by rw [h1, ev, e2])
        rw [upd_ne hne]; exact hq
      · rw [upd_ne (fun e => by rw [e, hH] at h; exact nx fs (Option.some.inj h))]; exact h
  · have g : ∀ (j : Nat) (s : Sl), s.Hold → (ρ.set i (some s1))[j]? = some (some s) → ∃ s', s'.Hold ∧ ρ[j]? = some (some s') := fun j s hs h => by
      by_cases e : i = j
      · subst e; exact ⟨s0, z0, hi⟩
      · rw [List.getElem?_set_ne e] at h; exact ⟨s, hs, h⟩
    obtain ⟨xs', x1, g1⟩ := g j xs hx h1
    obtain ⟨ys', y1, g2⟩ := g k ys hy h2
    exact st.inj j k q xs' ys' x1 y1 g1 g2 h3 h4
/-- a new object becomes slot i's own -/
theorem St0.holdNew {i : Nat} {s1 : Sl} {o : HO} (st : St0 K Tb H0 O0 O H σ ρ) (e : Ext H H') (n : H p = none) (hp : H' p = some o) (po : Plain o) (r : SlotR K O0 (p :: O) H' (.ref p) s1) :
    St0 K Tb H0 O0 (p :: O) H' (σ.set i (some (.ref p))) (ρ.set i (some s1)) := by
  have nO : p ∉ O := st.fresh n
  have n0 : H0 p = none := by
    cases q : H0 p with
    | none => rfl
    | some x => exact absurd n (st.ext.al p (by rw [q]; simp))
  have sub : Sub (hide O H) (hide (p :: O) H') := fun b o h t => by
    obtain ⟨h1, h2⟩ := hide_some h
    have hb : b ≠ p := ne_of_none h2 n
    rw [hide_out (by rw [List.mem_cons, not_or]; exact ⟨hb, h1⟩)]
    exact e.keep b o h2 t
  have nown : ∀ (j : Nat) (s : Sl), s.Hold → ρ[j]? = some (some s) → σ[j]? ≠ some (some (.ref p)) := fun j s hs h h2 => nO (st.hold hs h h2).1
  refine ⟨st.ext.trans e, fun b h => List.mem_cons_of_mem _ (st.sub b h), fun b h h2 => ?_, fun b h => ?_, fun P m => e.tab P (st.tab P m), fun b mb nb => ?_, by rw [List.length_set, List.length_set]; exact st.len, fun j s h => ?_, fun j k q xs ys hx hy h1 h2 h3 h4 => ?_⟩
  · rcases List.mem_cons.mp h with rfl | h
    · exact n0
    · exact st.new b h h2
  · rcases List.mem_cons.mp h with rfl | h
    · rw [hp]; simp
    · exact e.al b (st.al b h)
  · rcases List.mem_cons.mp mb with rfl | mb
    · exact ⟨_, hp, po⟩
    · obtain ⟨x, h, q⟩ := st.pln b mb nb
      exact ⟨x, e.keep b x h q.2, q⟩
  · by_cases ej : i = j
    · subst ej
      have il : i < ρ.length := by
        have := (List.getElem?_eq_some_iff.mp h).1
        rw [List.length_set] at this
        exact this
      rw [List.getElem?_set_self il] at h
      cases h
      exact ⟨_, by rw [List.getElem?_set_self (by rw [st.len]; exact il)], r⟩
    · rw [List.getElem?_set_ne ej] at h ⊢
      obtain ⟨v, h1, h2⟩ := st.slot j s h
      exact ⟨v, h1, h2.mv sub (fun _ q _ mq _ => ⟨List.mem_cons_of_mem _ mq, fun o hq n => e.keep q o hq n⟩) fun dd fs h => e.keep dd _ h fun _ z => by cases z⟩
  · have lt : ∀ (j : Nat) (s : Sl), i = j → (ρ.set i (some s1))[j]? = some (some s) → j < σ.length := fun j xs ej h => by
      have := (List.getElem?_eq_some_iff.mp h).1
      rw [List.length_set] at this
      rw [st.len]; exact this
    by_cases ej : i = j
    · by_cases ek : i = k
      · rw [← ej, ← ek]
      · subst ej
        rw [List.getElem?_set_self (lt _ _ rfl h1)] at h3
        cases h3
        rw [List.getElem?_set_ne ek] at h2 h4
        exact absurd h4 (nown k ys hy h2)
    · by_cases ek : i = k
      · subst ek
        rw [List.getElem?_set_self (lt _ _ rfl h2)] at h4
        cases h4
        rw [List.getElem?_set_ne ej] at h1 h3
        exact absurd h3 (nown j xs hx h1)
      · rw [List.getElem?_set_ne ej] at h1 h3
        rw [List.getElem?_set_ne ek] at h2 h4
        exact st.inj j k q xs ys hx hy h1 h2 h3 h4
end
theorem dctO_xd {a : Addr} {ep : Nat} {xs : List (List Int × Addr)} : ∀ fs, dctO a ep xs ≠ .xd fs := fun _ z => by cases z
/-- x = {} -/
def gNewD (i : Nat) : Sn := fun ρ => .nx (ρ.set i (some (.dct [])))
def dctAt (ρ : Rho) (i : Nat) (k : List (List Int) → Out) : Out := match ρ[i]? with
  | some (some (.dct ds)) => k ds
  | _ => .bad
/-- x[e] = True -/
def gPutD (i : Nat) (f : Dn) : Sn := fun ρ => dctAt ρ i fun ks => oR (f ρ) ρ fun d => match asTu d with
  | some k => if ks.length < sizeLine then .nx (ρ.set i (some (.dct (if k ∈ ks then ks else ks ++ [k])))) else .bad
  | none => .bad
/-- y = x.pop() -/
def gSetPop (j i : Nat) : Sn := fun ρ => ownAt ρ i fun ds => match ds.getLast? with
  | some d => .nx ((ρ.set i (some (.own ds.dropLast))).set j (some (.d d)))
  | none => .bad
/-- x.extend(e) -/
def gExt (i : Nat) (f : Dn) : Sn := fun ρ => ownAt ρ i fun ds => oR (f ρ) ρ fun d => match d with
  | .list es => if ds.length + es.length ≤ sizeLine then .nx (ρ.set i (some (.own (ds ++ es)))) else .bad
  | _ => .bad
def tDNewC : TE := fun _ H Q => ∀ p, H p = none → Q (.ref p) (upd H p (dctO p 0 []))
def rPutT (K : PySem.W.Frag) : V → V → V → Hp → (Hp → Prop) → Prop := fun o i v H Q => ∃ D b k ep xs, o = .ref D ∧ i = .ref b ∧ v = .bl true ∧ H D = some (dctO D ep xs) ∧ (∀ x ∈ xs, SqT K H x.2 (x.1.map V.int)) ∧ xs.length < sizeLine ∧ SqT K H b (k.map V.int) ∧ ∀ ep', Q (upd H D (dctO D ep' (putT xs k b)))
def rExtL (K : PySem.W.Frag) : V → List V → Hp → VK → Prop := fun x vs H Q => ∃ l b xs zs, x = .ref l ∧ vs = [.ref b] ∧ H l = some (.lst xs) ∧ SqL K H b zs ∧ xs.length + zs.length ≤ sizeLine ∧ Q .non (upd H l (.lst (xs ++ zs)))
theorem list_extend_any (l : Addr) (items : Array Value) (n : Nat) (b : Addr) (items2 : Array Value) (n2 : Nat) (sl2 : Array (Option Value)) (hc0 : ¬(!items.isEmpty && Builtin.List.listTooLong (items.size + items2.size)) = true) (hc1 : items.size ≤ sizeLine) (hs2 : items.size + items2.size ≤ sizeLine + 1) :
    Meets (Builtin.«list.extend» ⟨[.ref l, .ref b], []⟩) (fun _ R s => s.heap.get? l = some { cls := .type "list", dict := none, data := .seq items n, slots := #[] } ∧ s.heap.get? b = some { cls := .type "list", dict := none, data := .seq items2 n2, slots := sl2 } ∧ R (.ok (.ret Value.none)) { s with heap := s.heap.update l (Obj.mapSeq fun x => x ++ items2), toks := s.toks }) :=
  .of_wp fun prog w A R s h => by
    obtain ⟨hp, g, d, tk, os⟩ := s; obtain ⟨hl, hb, h⟩ := h; have f1 := AutoSeq1.idx_int; have f2 := AutoSeq1.sub_tuple_tuple; have f3 := AutoSeq1.sub_list_list; have f4 := AutoSeq1.sub_tuple_list; have f5 := AutoSeq1.sub_list_tuple;
    have hz' : (items ++ items2).size ≤ sizeLine + 1 := by rw [Array.size_append]; exact hs2
    wp_walk using (wpAny_updateSeq hl rfl (hz := hc1) (_hz' := hz')), AutoSeq1.wpAny_loadPart' hl, AutoSeq1.wpAny_loadPart' hb; exact ⟨_, rfl, h⟩
section
variable {X : Cx} {pos : Pos}
theorem pe_dnewC : PE X (.Dict [] [] pos) tDNewC := ⟨fun pins s σ H Q I h =>
  wpAny_Dict_empty ⟨.ref s.heap.objs.size, _, I.laid (a := s.heap.objs.size) (o := dctO s.heap.objs.size 0 []) (t' := s.toks) (fun _ _ q => Heap.get?_push_of_some _ q) (Nat.le_refl _) (dct_new s.heap I.big), rfl, h _ (I.hok.fresh (Nat.le_refl _))⟩⟩
theorem set_dctT (hu : X.A.units + 65 < cLine) : PSet X (rPutT X.K) := by
  intro pins s σ H o i v ov iv u Q I ro ri rv h
  obtain ⟨D, b, k, ep, xs, rfl, rfl, rfl, hD, hk, hz, hb, q⟩ := h
  cases ro; cases ri; cases rv
  obtain ⟨h1, h2, d⟩ := dct_at I hD hk
  refine wpAny_setItem_heap (hsz := by rw [List.length_map]; exact h2) (tupleKind_room_in1 (show X.A.units + 1 < cLine by omega)) (key_is I hb) d fun h' d' hs => ?_
  rw [stored_kvT] at d'
  have he : ∃ q, h'.get? D = some q := let ⟨q, _, _, hq, _⟩ := d'; ⟨q, hq⟩
  obtain ⟨ep', ok⟩ := dct_ok (P := X.prog) (w := X.w) (H' := H) h1 (by have := putT_len xs k b; omega) d'
  exact ⟨_, I.write (x := D) (e := D) (by rw [hD]; trivial) (.inl rfl) (fun b q hb z => (hs.2 b hb).trans z) he (dct_any ok), q ep'⟩
theorem mt_extL : MtM X "list.extend" (rExtL X.K) := by
  intro pins s σ H x vs v us Q I rx rv h
  obtain ⟨l, b, xs, zs, rfl, rfl, hH, hB, hz, q⟩ := h
  cases rx
  obtain ⟨u, rfl, ru⟩ := rv.one
  cases ru
  obtain ⟨z, its, n, r, hl, e⟩ := I.lstM hH
  obtain ⟨its2, r2, ⟨o2, n2, e2, c2, d2, s2⟩, z2⟩ := I.list hB
  have hl2 : zs.length = its2.length := r2.length
  obtain ⟨c, dd, dt, sl⟩ := o2
  dsimp only at c2 d2 s2
  subst c2 d2 s2
  have hsz : its.toArray.size + its2.toArray.size ≤ sizeLine := by rw [List.size_toArray, List.size_toArray]; omega
  have hlong : ¬ (!its.toArray.isEmpty && Builtin.List.listTooLong (its.toArray.size + its2.toArray.size)) = true := by
    rw [notLongL hsz, Bool.and_false]
    exact Bool.false_ne_true
  refine call_meets F.slot_list_extend ⟨_, e, rfl⟩ F.entry_list_extend (F.args_list_extend_2 _ _)
    (list_extend_any l its.toArray n b its2.toArray n2 sl hlong (by rw [List.size_toArray]; omega) (by omega)) ⟨e, e2, ?_⟩
  refine ⟨.non, _, I.lset (its' := its ++ its2) hH e (by simp) (r.append r2) ?_, rfl, q⟩
  rw [List.length_append]
  omega
end
section
variable {X : Cx} {Tb : List Addr} {W : WX} {e : Expr} {es : List Expr} {f : Dn} {gl : DnL} {pos p : Pos} {x : Str}
theorem fs_newD {i : Nat} {pos' dpos : Pos} (hN : X.N.Nodup) (hi : X.N[i]? = some x) (hx : Loc X.env.scope x) (hs : swapsWith (.Dict [] [] dpos) (some (.Name x pos')) pos.line X.env = pure false := by rfl)
    (hf : X.fn x = true ∨ X.env.scope.names.lookup x = some .local := by first | exact .inl rfl | exact .inr rfl | assumption) : PS X (.Assign [.Name x pos'] (.Dict [] [] dpos) pos) (tS X.K Tb W (gNewD i)) := (ps_set hN hi hx pe_dnewC hs hf).by fun D σ H ⟨H0, O0, O, ρ, st, h⟩ => fun p hp => h (p :: O) _ _ (st.holdNew (Ext.new hp) hp upd_same (plain_dct p 0 []) ⟨p, 0, [], rfl, List.mem_cons_self, fun m => st.fresh hp (st.sub p m), upd_same, rfl, fun _ h => nomatch h⟩)
theorem dct_atS {K : PySem.W.Frag} {H0 H : Hp} {O0 O : List Addr} {ρ : Rho} {σ : L2.St} {D : Ends} {i : Nat} {k : List (List Int) → Out} (st : St0 K Tb H0 O0 O H σ ρ) (h : PostS K Tb W H0 O0 (dctAt ρ i k) D) :
    ∃ ks p ep xs, ρ[i]? = some (some (.dct ks)) ∧ σ[i]? = some (some (.ref p)) ∧ H p = some (dctO p ep xs) ∧ xs.map (·.1) = ks ∧ (∀ x ∈ xs, SqT K (hide O H) x.2 (x.1.map V.int)) ∧ p ∈ O ∧ p ∉ O0 ∧ PostS K Tb W H0 O0 (k ks) D := by
  unfold dctAt at h
  split at h
  · rename_i ks e
    obtain ⟨v, h1, p, ep, xs, rfl, m, m0, hp, z, r⟩ := st.slot i _ e
    exact ⟨ks, p, ep, xs, e, h1, hp, z, r, m, m0, h⟩
  · exact h.elim
theorem fs_putD {i k : Nat} {tj : Nat} {npos spos tpos : Pos} (hr : Room k X.A) (ho : X.N[i]? = some x) (hv : Vis X.env.scope x) (hd : (x == ("__debug__" : Str)) = false) (hcd : (x == ("__classdict__" : Str)) = false) (hi : PE X e (tD X.K Tb W f))
    (ha : ∀ v, assign (.Subscript (.Name x npos) e spos) X.env v = (do
      let ov ← holding [v] (eval (.Name x npos) X.env)
      let iv ← holding [v, ov] (eval e X.env)
      standAt spos
      holding [v, ov, iv] (setItem ov iv v)
      release [v, ov, iv] []) := by intro _; rfl)
    (hs : swapsWithSole [.Subscript (.Name x npos) e spos] (.Constant (.bool true) tj tpos) pos.line X.env = pure false := by rfl) (hw : swappedStores [.Subscript (.Name x npos) e spos] (.Constant (.bool true) tj tpos) X.env = pure none := by rfl)
    (h1 : (assignEach [.Subscript (.Name x npos) e spos] X.env).map (·.2) = [assign (.Subscript (.Name x npos) e spos) X.env] := by rfl) :
    PS X (.Assign [.Subscript (.Name x npos) e spos] (.Constant (.bool true) tj tpos) pos) (tS X.K Tb W (gPutD i f)) :=
  (ps_asg pe_bl (pg_sub (pe_var ho hv hd hcd) hi (set_dctT hr.u65) ha) hs hw h1).by fun D σ H ⟨H0, O0, O, ρ, st, h⟩ => by
    obtain ⟨ks, p, ep, xs, e1, e2, hp, z, r, m, m0, k⟩ := dct_atS st h
    refine ⟨.ref p, e2, H0, O0, O, ρ, st, oR_post st k fun y v H1 ex rv k => ?_⟩
    split at k
    · rename_i key hk
      split at k
      · rename_i hl
        obtain ⟨b, rfl, hb⟩ := asTu_rp rv hk
        have hp1 := ex.keep p _ hp (fun _ q => by cases q)
        have r1 : ∀ x ∈ xs, SqT X.K (hide O H1) x.2 (x.1.map V.int) := fun x hx => (Sub.hide ex.keep).sqT (r x hx)
        refine ⟨p, b, key, ep, xs, rfl, rfl, rfl, hp1, fun x hx => Sub.unhide.sqT (r1 x hx), by rw [← List.length_map (f := (·.1)), z]; exact hl, Sub.unhide.sqT hb, fun ep' => k O σ _ ((st.step ex).holdSet (s0 := .dct ks) trivial trivial e1 e2 hp1 (plain_dct p ep xs) (plain_dct p _ _) dctO_xd ⟨p, _, _, rfl, m, m0, upd_same, by rw [putT_keys, z], fun x hx => ?_⟩)⟩
        rw [hide_upd m]
        rcases putT_mem hx with hx | rfl
        · exact r1 x hx
        · exact hb
      · exact k.elim
    · exact k.elim
theorem fs_setPop {i j : Nat} {y : Str} {apos npos cpos ypos : Pos} (hN : X.N.Nodup) (hj : X.N[j]? = some y) (hy : Loc X.env.scope y) (ho : X.N[i]? = some x) (hv : Vis X.env.scope x) (hd : (x == ("__debug__" : Str)) = false) (hcd : (x == ("__classdict__" : Str)) = false) (hij : i ≠ j)
    (hbase : attributeBase (.Name x npos) "pop" X.env (eval (.Name x npos) X.env) = eval (.Name x npos) X.env) (hline : (apos.endLine == cpos.line) = true)
    (hs : swapsWith (.Call (.Attribute (.Name x npos) "pop" apos) [] [] cpos) (some (.Name y ypos)) pos.line X.env = pure false)
    (hf : X.fn y = true ∨ X.env.scope.names.lookup y = some .local := by first | exact .inl rfl | exact .inr rfl | assumption) :
    PS X (.Assign [.Name y ypos] (.Call (.Attribute (.Name x npos) "pop" apos) [] [] cpos) pos) (tS X.K Tb W (gSetPop j i)) :=
  (ps_set hN hj hy (pe_bm0 PySem.F.plainAttrs_list PySem.F.slot_list_pop PySem.F.type_list_pop mt_pop (pe_var ho hv hd hcd) hbase hline) hs hf).by fun D σ H ⟨H0, O0, O, ρ, st, h⟩ => by
    obtain ⟨ds, p, vs, e1, e2, hp, z, r, h⟩ := own_at st h
    split at h
    · rename_i d hd
      have n : ds ≠ [] := fun q => by rw [q] at hd; cases hd
      obtain ⟨y, d', hy, hd', ry⟩ := r.last n
      rw [List.getLast?_eq_getElem?] at hd
      rw [hd] at hd'
      cases hd'
      obtain ⟨_, h1q, p', vs', rfl, mO, m0, _⟩ := st.slot i _ e1
      rw [e2] at h1q
      cases h1q
      refine ⟨.ref p, e2, .inl ⟨rfl, vs, .of hp⟩, p, vs, y, rfl, rfl, hp, hy, ?_⟩
      exact h O _ _ ((st.ownSet e1 e2 (by rw [List.length_dropLast]; omega) r.dropLast).set (by rw [hide_upd mO]; exact ry))
    · exact h.elim
theorem fs_ext {i : Nat} {apos npos cpos : Pos} (ho : X.N[i]? = some x) (hv : Vis X.env.scope x) (hd : (x == ("__debug__" : Str)) = false) (hcd : (x == ("__classdict__" : Str)) = false) (ha : PE X e (tD X.K Tb W f))
    (hse : starEach [e] X.env = (false, eval e X.env) :: starEach [] X.env) (hbase : attributeBase (.Name x npos) "extend" X.env (eval (.Name x npos) X.env) = eval (.Name x npos) X.env)
    (hfew : ((backTo cpos (starEach [e] X.env)).all (fun x => !x.1) && (backToKw cpos (keywordEach [] X.env)).all (fun x => x.1.isSome)
      && decide (([e] : List Expr).length + ([] : List Keyword).length + (if ([] : List Keyword).isEmpty then 0 else 1) < 30)) = true)
    (hline : (apos.endLine == cpos.line) = true) (hplain : (backTo cpos (starEach [] X.env)).any (·.1) = false)
    (hs : swapsWith (.Call (.Attribute (.Name x npos) "extend" apos) [e] [] cpos) none pos.line X.env = pure false) :
    PS X (.Expr (.Call (.Attribute (.Name x npos) "extend" apos) [e] [] cpos) pos) (tS X.K Tb W (gExt i f)) :=
  (ps_expr (pe_bm PySem.F.plainAttrs_list PySem.F.slot_list_extend PySem.F.type_list_extend mt_extL (pe_var ho hv hd hcd) (pa_cons ha pa_nil hse) hbase hfew hline hse hplain) hs).by fun D σ H ⟨H0, O0, O, ρ, st, h⟩ => by
    obtain ⟨ds, p, vs, e1, e2, hp, z, r, h⟩ := own_at st h
    refine ⟨.ref p, e2, .inl ⟨rfl, vs, .of hp⟩, H0, O0, O, ρ, st, oR_post st h fun d v H1 ex rv k => ?_⟩
    split at k
    · rename_i es
      split at k
      · rename_i hl
        cases rv with
        | lst s1 z1 r1 =>
          refine ⟨p, _, vs, _, rfl, rfl, ex.keep p _ hp (fun _ q => by cases q), Sub.unhide.sqL s1, by rw [r.length, r1.length]; exact hl, k O σ _ ((st.step ex).ownSet e1 e2 (by rw [List.length_append]; exact hl) ?_)⟩
          exact (r.mono (Sub.hide ex.keep)).append r1
      · exact k.elim
    · exact k.elim
end
end PD
set_option Elab.async false
set_option linter.all false
set_option maxRecDepth 100000
set_option maxHeartbeats 1000000
namespace PD
open PySem PySem.Spec PyProof.Rows L2
end PD
set_option Elab.async false
set_option linter.all false
set_option maxRecDepth 100000
set_option maxHeartbeats 1000000
namespace PD
open PySem PySem.Spec PyProof.Rows L2
/-- what the written part says of a class without __init__ of its own, over ValueError -/
structure ExcC (K : PySem.W.Frag) (C : Addr) : Prop where
  k : PySem.W.keepIn K (.ref C) = true
  b : PySem.W.subIn K (.ref C) (.type "BaseException") = some true
  t : PySem.W.typeIn K (.ref C) = some (.type "type")
  cl : (PySem.W.clsIn K C).isSome = true
  ga : PySem.W.findIn K (.ref C) "__getattribute__" = some (some (.builtin "BaseException.__getattribute__"))
  gt : PySem.W.findIn K (.ref C) "__getattr__" = some none
  ca : PySem.W.findIn K (.ref C) "__class__" = some (some (.builtin "object.__class__"))
  sp : PySem.W.specialIn K (.builtin "object.__class__") "__get__" = some (some (.builtin "getset_descriptor.__get__"))
  tk : PySem.W.takesIn K (.builtin "object.__class__") = some true
  mo : PySem.W.mroIn K C (.type "object") = some true
section
variable {X : Cx} {Tb : List Addr} {W : WX} {pos : Pos}
theorem takes0N {X : Cx} : L2N.Takes X (fun _ _ _ _ => False) := fun _ _ ⟨_, _, _, _, _, _, _, _, _, _, _, _, _, _, _, _, w⟩ => w.elim
open Classical in
noncomputable def allA (k : Addr → Value → Option Addr → Out) : Out := if h : ∃ o, ∀ a c d, k a c d = o then h.choose else .bad
theorem allA_eq {k : Addr → Value → Option Addr → Out} {o : Out} (h : ∀ a c d, k a c d = o) : allA k = o := by
  have e : ∃ o, ∀ a c d, k a c d = o := ⟨o, h⟩
  unfold allA
  rw [dif_pos e]
  exact (e.choose_spec 0 .none none).symm.trans (h 0 .none none)
theorem allA_post {K : PySem.W.Frag} {H0 : Hp} {O0 : List Addr} {D : Ends} {k : Addr → Value → Option Addr → Out} (h : PostS K Tb W H0 O0 (allA k) D) (a : Addr) (c : Value) (d : Option Addr) : PostS K Tb W H0 O0 (k a c d) D := by
  unfold allA at h
  split at h
  · rename_i e
    rw [e.choose_spec a c d]
    exact h
  · exact h.elim
/-- slot i is empty behind -/
def clrO (i : Nat) : Out → Out
  | .nx ρ => .nx (ρ.set i none)
  | .bk ρ => .bk (ρ.set i none)
  | .ct ρ => .ct (ρ.set i none)
  | .rt d => .rt d
  | _ => .bad
noncomputable def gTry (i : Nat) (cs : List Addr) (g : Sn) (h : Addr → Value → Option Addr → Sn) : Sn := fun ρ => match g ρ with
  | .exc e ρ' => if e.cls ∈ cs then clrO i (allA fun a c d => h a c d (ρ'.set i (some (.exn a c d e)))) else .bad
  | o => o
section
variable {K : PySem.W.Frag} {H0 H : Hp} {O0 O : List Addr} {ρ : Rho} {σ : L2.St}
theorem St0.setExn (st : St0 K Tb H0 O0 O H σ ρ) {i : Nat} {a : Addr} {c : Value} {d : Option Addr} {e : Ex} (r : ExR K (hide O H) H c d e) : St0 K Tb H0 O0 O H (σ.set i (some (.ref a))) (ρ.set i (some (.exn a c d e))) where
  ext := st.ext
  sub := st.sub
  new := st.new
  al := st.al
  tab := st.tab
  pln := st.pln
  len := by rw [List.length_set, List.length_set]; exact st.len
  slot := fun j x h => by
    by_cases e : i = j
    · subst e
      have hl : i < ρ.length := by
        have := (List.getElem?_eq_some_iff.mp h).1
        rw [List.length_set] at this
        exact this
      rw [List.getElem?_set_self hl] at h
      cases h
      exact ⟨.ref a, by rw [List.getElem?_set_self (by rw [st.len]; exact hl)], rfl, r⟩
    · rw [List.getElem?_set_ne e] at h ⊢
      exact st.slot j x h
  inj := fun j k p xs ys hx hy h1 h2 h3 h4 => by
    by_cases e : i = j
    · subst e
      have hl : i < ρ.length := by
        have := (List.getElem?_eq_some_iff.mp h1).1
        rw [List.length_set] at this
        exact this
      rw [List.getElem?_set_self hl] at h1
      cases h1
      exact hx.elim
    · by_cases e2 : i = k
      · subst e2
        have hl : i < ρ.length := by
          have := (List.getElem?_eq_some_iff.mp h2).1
          rw [List.length_set] at this
          exact this
        rw [List.getElem?_set_self hl] at h2
        cases h2
        exact hy.elim
      · rw [List.getElem?_set_ne e] at h1 h3
        rw [List.getElem?_set_ne e2] at h2 h4
        exact st.inj j k p xs ys hx hy h1 h2 h3 h4
theorem St0.clr (st : St0 K Tb H0 O0 O H σ ρ) (i : Nat) : St0 K Tb H0 O0 O H (σ.set i none) (ρ.set i none) where
  ext := st.ext
  sub := st.sub
  new := st.new
  al := st.al
  tab := st.tab
  pln := st.pln
  len := by rw [List.length_set, List.length_set]; exact st.len
  slot := fun j x h => by
    by_cases e : i = j
    · subst e
      by_cases hl : i < ρ.length
      · rw [List.getElem?_set_self hl] at h; cases h
      · rw [List.getElem?_eq_none (by rw [List.length_set]; omega)] at h; cases h
    · rw [List.getElem?_set_ne e] at h ⊢
      exact st.slot j x h
  inj := fun j k p xs ys hx hy h1 h2 h3 h4 => by
    have g : ∀ (j : Nat) (s : Sl), (ρ.set i none)[j]? = some (some s) → ¬ i = j := fun j s h e => by
      subst e
      by_cases hl : i < ρ.length
      · rw [List.getElem?_set_self hl] at h; cases h
      · rw [List.getElem?_eq_none (by rw [List.length_set]; omega)] at h; cases h
    have e1 := g j xs h1
    have e2 := g k ys h2
    rw [List.getElem?_set_ne e1] at h1 h3
    rw [List.getElem?_set_ne e2] at h2 h4
    exact st.inj j k p xs ys hx hy h1 h2 h3 h4
end
theorem fs_try {i : Nat} {x n : Str} {C0 : Addr} {cs : List Addr} {body suite : List Stmt} {b₀ : Stmt} {np pos' : Pos} {g : Sn} {h : Addr → Value → Option Addr → Sn} (hs : X.stack = X.env :: X.outer) (hf : X.env.frame = some X.env.locals) (hN : X.N.Nodup) (hi : X.N[i]? = some n) (hln : X.env.kindOf n = some .local) (hg : Gl X x) (g0 : X.mg x = some (.ref C0))
    (hcs : ∀ c ∈ cs, PySem.W.exmOne X.K (.ref c) (.ref C0) = some true)
    (hb : ∀ (W : WX) (pn : List (Addr × Obj)) (xe : Value → Shared → Prop), L2N.Takes (X.tr pn xe) W → PassesOwn (model X.prog X.w) X.A X.env xe → PSs (X.tr pn xe) body (tS X.K Tb W g))
    (hsu : ∀ (a : Addr) (oe : Obj) (cls : Value) (d : Option Addr) (pn : List (Addr × Obj)), L2N.Zn cls d oe → (∃ vs, oe.data = .fields vs) → PSs (X.suite a ((a, oe) :: pn)) (b₀ :: suite) (tS X.K Tb W0 (h a cls d))) (hdb : (x == ("__debug__" : Str)) = false := by decide) :
    PS X (.Try body [.ExceptHandler (some (.Name x np)) (some n) (b₀ :: suite) pos'] [] [] pos) (tS X.K Tb W (gTry i cs g h)) :=
  (L2N.ps_try_as (Wout := fun _ _ _ _ => False) (tb := fun W => tS X.K Tb W g) (ts := fun a c d => tS X.K Tb W0 (h a c d)) hs hf hN hi hln ⟨hg, hdb, .inl g0⟩ takes0N hb hsu).by fun D σ H ⟨H0, O0, O, ρ, st, q⟩ => by
    refine ⟨H0, O0, O, ρ, st, ?_⟩
    unfold gTry at q
    cases eg : g ρ with
    | nx ρ' => rw [eg] at q; exact q
    | rt d => rw [eg] at q; exact q
    | bk ρ' => rw [eg] at q; exact q
    | ct ρ' => rw [eg] at q; exact q
    | bad => rw [eg] at q; exact q
    | exc e ρ' =>
      rw [eg] at q
      dsimp only at q
      split at q
      · rename_i hm
        intro O1 σ1 H1 c d st1 r
        obtain ⟨rfl, r2⟩ := id r
        refine ⟨true, hcs _ hm, fun _ a _ => ⟨H0, O0, O1, _, st1.setExn (i := i) (a := a) r, ?_⟩, fun z => Bool.noConfusion z⟩
        have key : ∀ out, PostS X.K Tb W H0 O0 (clrO i out) D → PostS X.K Tb W0 H0 O0 out { nx := fun σ' H' => D.nx (σ'.set i none) H', rt := D.rt, bk := fun σ' H' => D.bk (σ'.set i none) H', ct := fun σ' H' => D.ct (σ'.set i none) H' } := fun out h => by
          cases out with
          | nx ρ => exact fun O σ H st => h O _ H (st.clr i)
          | bk ρ => exact fun O σ H st => h O _ H (st.clr i)
          | ct ρ => exact fun O σ H st => h O _ H (st.clr i)
          | rt d => exact h
          | exc e ρ => exact h.elim
          | bad => exact h.elim
        exact allA_post (key _ q) a (.ref e.cls) d
      · exact q.elim
end
end PD
set_option Elab.async false
set_option linter.all false
set_option maxRecDepth 100000
set_option maxHeartbeats 1000000
namespace PD
open PySem PySem.Spec PyProof.Rows L2
open Classical in
noncomputable def exnOf (ρ : Rho) (i : Nat) (a : Addr) (c : Value) (d : Option Addr) : Option Ex := match ρ[i]? with
  | some (some (.exn a' c' d' e)) => if a' = a ∧ c' = c ∧ d' = d then some e else none
  | _ => none
theorem exnOf_is {ρ : Rho} {i : Nat} {a : Addr} {c : Value} {d : Option Addr} {e : Ex} (h : exnOf ρ i a c d = some e) : ρ[i]? = some (some (.exn a c d e)) := by
  unfold exnOf at h
  split at h
  · rename_i a' c' d' e' hs
    split at h
    · rename_i q
      cases h
      obtain ⟨rfl, rfl, rfl⟩ := q
      exact hs
    · cases h
  · cases h
noncomputable def dIsiE (i : Nat) (bs : List (Addr × Bool)) (a : Addr) (c : Value) (d : Option Addr) : Dn := fun ρ => match exnOf ρ i a c d with
  | some e => match bs.lookup e.cls with
    | some b => .ok (.bool b)
    | none => .bad
  | none => .bad
theorem lookup_mem {α β : Type} [BEq α] [LawfulBEq α] {l : List (α × β)} {x : α} {y : β} (h : l.lookup x = some y) : (x, y) ∈ l := by
  induction l with
  | nil => cases h
  | cons p l ih =>
    obtain ⟨p1, p2⟩ := p
    rw [List.lookup_cons] at h
    cases e : x == p1 with
    | true => rw [e] at h; cases h; rw [eq_of_beq e]; exact List.mem_cons_self
    | false => rw [e] at h; exact List.mem_cons_of_mem _ (ih h)
def rIsiE (K : PySem.W.Frag) (a : Addr) (cls : Value) (d : Option Addr) : List V → Hp → VK → Prop := fun xs H Q => ∃ (c : V) (C : Addr) (u : Value) (b : Bool), xs = [.ref a, c] ∧ ClsV c u ∧ cls = .ref C ∧ ExcC K C ∧ PySem.W.kitOne K (.ref C) u = some b ∧ (d = none ∨ ∃ dd fs, d = some dd ∧ H dd = some (.xd fs)) ∧ Q (.bl b) H
section
variable {X : Cx} {Tb : List Addr} {W : WX} {a : Addr} {oe : Obj} {cls : Value} {d : Option Addr} {pn : List (Addr × Obj)}
theorem call_isiE (hz : Zc cls d oe) (hf : ∃ vs, oe.data = .fields vs) : CallR (X.suite a ((a, oe) :: pn)) (.builtin "isinstance") (rIsiE X.K a cls d) := by
  intro pins s σ H xs us Q I r h
  obtain ⟨c, C, u, b, rfl, k, rfl, E, e, hd, q⟩ := h
  obtain ⟨u1, u2, rfl, r1, r2⟩ := vals2 r
  have e2 := k.eq r2
  subst e2
  cases (show u1 = Value.ref a from r1)
  obtain ⟨ha, _⟩ := I.pin (a, oe) (List.mem_append_left _ List.mem_cons_self)
  obtain ⟨vs, hdat⟩ := hf
  have J : ∃ od, PySem.W.InstAt s.heap a oe C od := by
    rcases hd with rfl | ⟨dd, fs, rfl, hdd⟩
    · exact ⟨none, ha, hz.1, by unfold PySem.W.notCls; rw [hdat] <;> rfl, by rw [hz.2]; trivial⟩
    · have hx : ObjOk X.prog X.w H s.heap dd (.xd fs) := I.hok dd _ hdd
      obtain ⟨mA, hns, hr⟩ := hx
      obtain ⟨od, ho, hl⟩ := lookIn_ns hns
      exact ⟨some od, ha, hz.1, by unfold PySem.W.notCls; rw [hdat] <;> rfl, by rw [hz.2]; exact ho⟩
  obtain ⟨od, J⟩ := J
  exact PySem.W.kia_one (PySem.W.kitx_exc E.cl E.ga E.gt E.b E.ca E.sp E.tk E.mo) I.kIn J e (fun z => nomatch z) fun tk => ⟨.bl b, H, I.tok tk, rfl, q⟩
theorem e_isiE {i : Nat} {x y : Str} {u : Value} {cv : V} {bs : List (Addr × Bool)} {p p1 py pos : Pos} (hz : Zc cls d oe) (hf : ∃ vs, oe.data = .fields vs) (B : Bi X.mg) (hbs : ∀ q ∈ bs, ExcC X.K q.1 ∧ PySem.W.kitOne X.K (.ref q.1) u = some q.2) (hcv : ClsV cv u)
    (hy : PE (X.suite a ((a, oe) :: pn)) (.Name y py) (tC cv)) (ho : X.N[i]? = some x) (hv : Vis X.env.scope x) (hd : (x == ("__debug__" : Str)) = false := by decide) (hcd : (x == ("__classdict__" : Str)) = false := by decide) (hg : Gl X "isinstance" := by rfl)
    (he : starEach [.Name x p1, .Name y py] X.env = (false, eval (.Name x p1) X.env) :: starEach [.Name y py] X.env := by rfl) (he2 : starEach [.Name y py] X.env = (false, eval (.Name y py) X.env) :: starEach [] X.env := by rfl) (hpl : (backTo pos (starEach [.Name y py] X.env)).any (·.1) = false := by rfl) :
    PE (X.suite a ((a, oe) :: pn)) (.Call (.Name "isinstance" p) [.Name x p1, .Name y py] [] pos) (tD X.K Tb W (dIsiE i bs a cls d)) :=
  (pe_callB (X := X.suite a ((a, oe) :: pn)) (call_isiE hz hf) hg B.isinstance boot_isinstance (pa_cons (pe_var ho hv hd hcd) (pa_cons hy pa_nil he2) he) (by decide) (by decide) he hpl).by fun σ H Q ⟨H0, O0, O, ρ, st, h⟩ => by
    unfold dIsiE at h
    split at h
    · rename_i ex heq
      obtain ⟨v, h1, rfl, hx1, hx2⟩ := st.slot i _ (exnOf_is heq)
      split at h
      · rename_i b hb
        obtain ⟨E, kb⟩ := hbs _ (lookup_mem hb)
        refine ⟨.ref a, h1, cv, ex.cls, u, b, rfl, hcv, hx1, E, kb, ?_, Post.here h (.bl b)⟩
        rcases hx2 with ⟨_, z⟩ | ⟨dd, fs, z1, z2, _⟩
        · exact .inl z
        · exact .inr ⟨dd, fs, z1, z2⟩
      · exact h.elim
    · exact h.elim
end
end PD
namespace PD
open PySem PySem.Spec PyProof.Rows L2
section
variable {X : Cx} {Tb : List Addr} {W : WX} {a : Addr} {oe : Obj} {cls : Value} {d : Option Addr} {pn : List (Addr × Obj)}
/-- a class of the program -/
theorem e_isiO {i : Nat} {x y : Str} {C2 : Addr} {bs : List (Addr × Bool)} {p p1 py pos : Pos} (hz : Zc cls d oe) (hf : ∃ vs, oe.data = .fields vs) (B : Bi X.mg) (hbs : ∀ q ∈ bs, ExcC X.K q.1 ∧ PySem.W.kitOne X.K (.ref q.1) (.ref C2) = some q.2) (gy : X.mg y = some (.ref C2)) (hgy : Gl X y)
    (ho : X.N[i]? = some x) (hv : Vis X.env.scope x) (hdy : (y == ("__debug__" : Str)) = false := by decide) (hd : (x == ("__debug__" : Str)) = false := by decide) (hcd : (x == ("__classdict__" : Str)) = false := by decide) (hg : Gl X "isinstance" := by rfl)
    (he : starEach [.Name x p1, .Name y py] X.env = (false, eval (.Name x p1) X.env) :: starEach [.Name y py] X.env := by rfl) (he2 : starEach [.Name y py] X.env = (false, eval (.Name y py) X.env) :: starEach [] X.env := by rfl) (hpl : (backTo pos (starEach [.Name y py] X.env)).any (·.1) = false := by rfl) :
    PE (X.suite a ((a, oe) :: pn)) (.Call (.Name "isinstance" p) [.Name x p1, .Name y py] [] pos) (tD X.K Tb W (dIsiE i bs a cls d)) :=
  e_isiE hz hf B hbs (.own C2) (pe_glob (X := X.suite a ((a, oe) :: pn)) hgy gy rfl hdy) ho hv hd hcd hg he he2 hpl
/-- a built-in class -/
theorem e_isiB {i : Nat} {x y : Str} {T : String} {bs : List (Addr × Bool)} {p p1 py pos : Pos} (hz : Zc cls d oe) (hf : ∃ vs, oe.data = .fields vs) (B : Bi X.mg) (hbs : ∀ q ∈ bs, ExcC X.K q.1 ∧ PySem.W.kitOne X.K (.ref q.1) (.type T) = some q.2) (zy : X.mg y = none) (hgy : Gl X y) (hby : bootBuiltins y = some (.type T))
    (ho : X.N[i]? = some x) (hv : Vis X.env.scope x) (hny : y ≠ "__name__" := by decide) (hdy : (y == ("__debug__" : Str)) = false := by decide) (hd : (x == ("__debug__" : Str)) = false := by decide) (hcd : (x == ("__classdict__" : Str)) = false := by decide) (hg : Gl X "isinstance" := by rfl)
    (he : starEach [.Name x p1, .Name y py] X.env = (false, eval (.Name x p1) X.env) :: starEach [.Name y py] X.env := by rfl) (he2 : starEach [.Name y py] X.env = (false, eval (.Name y py) X.env) :: starEach [] X.env := by rfl) (hpl : (backTo pos (starEach [.Name y py] X.env)).any (·.1) = false := by rfl) :
    PE (X.suite a ((a, oe) :: pn)) (.Call (.Name "isinstance" p) [.Name x p1, .Name y py] [] pos) (tD X.K Tb W (dIsiE i bs a cls d)) :=
  e_isiE hz hf B hbs (.ty T) (pe_bltn (X := X.suite a ((a, oe) :: pn)) hgy zy hby rfl hny hdy) ho hv hd hcd hg he he2 hpl
end
theorem boot_ValueError : bootBuiltins "ValueError" = some (.type "ValueError") := by first | rfl | decide +kernel | kernel_rfl
end PD
namespace PD
open PySem PySem.Spec PyProof.Rows L2
end PD
set_option Elab.async false
set_option linter.all false
set_option maxRecDepth 100000
set_option maxHeartbeats 1000000
namespace PD
open PySem PySem.Spec PyProof.Rows L2
end PD
namespace PD
open PySem PySem.Spec PyProof.Rows L2
end PD
set_option Elab.async false
set_option linter.all false
set_option maxRecDepth 100000
namespace PD
open PySem PySem.Spec PySem.W PyProof.Rows
theorem kit_ref {K : Frag} {t : Value} {C : Addr} {v : Bool} (h2 : (clsIn K C).isSome = true) (h3 : typeIn K (.ref C) = some (.type "type")) (h4 : subIn K t (.ref C) = some v) (d : (t == .ref C) = true → v = true) :
    kitOne K t (.ref C) = some v := by
  unfold kitOne
  by_cases q : (t == .ref C) = true
  · rw [if_pos q, d q]
  · rw [if_neg q]
    have e2 : ((clsIn K C).isSome && typeIn K (.ref C) == some (.type "type")) = true := by rw [h2, h3] <;> rfl
    show (if ((clsIn K C).isSome && typeIn K (.ref C) == some (.type "type")) = true then subIn K t (.ref C) else none) = some v
    rw [if_pos e2]; exact h4
theorem kit_ty {K : Frag} {t : Value} {T : String} {v : Bool} (h2 : kitMeta T = true) (h4 : subIn K t (.type T) = some v) (d : (t == .type T) = false) :
    kitOne K t (.type T) = some v := by
  unfold kitOne
  rw [if_neg (by rw [d]; exact Bool.false_ne_true)]
  show (if kitMeta T = true then subIn K t (.type T) else none) = some v
  rw [if_pos h2]; exact h4
theorem exm_ref {K : Frag} {t : Value} {C : Addr} {v : Bool} (h1 : subIn K (.ref C) (.type "BaseException") = some true) (h2 : (clsIn K C).isSome = true) (h3 : typeIn K (.ref C) = some (.type "type")) (h4 : subIn K t (.ref C) = some v) :
    exmOne K t (.ref C) = some v := by
  have e1 : (subIn K (.ref C) (.type "BaseException") == some true) = true := by rw [h1] <;> rfl
  have e2 : ((clsIn K C).isSome && typeIn K (.ref C) == some (.type "type")) = true := by rw [h2, h3] <;> rfl
  show (if (subIn K (.ref C) (.type "BaseException") == some true) = true then (if ((clsIn K C).isSome && typeIn K (.ref C) == some (.type "type")) = true then subIn K t (.ref C) else none) else none) = some v
  rw [if_pos e1, if_pos e2]; exact h4
theorem clsIn_some {K : Frag} {C : Addr} (h : isClsIn K C = true) : (clsIn K C).isSome = true := h
end PD
set_option Elab.async false
set_option linter.all false
set_option maxRecDepth 100000
namespace PD
open PySem PySem.Spec PyProof.Rows L2
end PD
set_option Elab.async false
set_option linter.all false
set_option maxRecDepth 100000
set_option maxHeartbeats 1000000
namespace PD
open PySem PySem.Spec PyProof.Rows L2
theorem kit_any2 {K : PySem.W.Frag} {t u1 u2 : Value} {b1 b2 : Bool} (h1 : PySem.W.kitOne K t u1 = some b1) (h2 : PySem.W.kitOne K t u2 = some b2) : PySem.W.kitAny K t [u1, u2] = some (b1 || b2) := by
  unfold PySem.W.kitAny
  rw [h1]
  cases b1 with
  | true => rfl
  | false =>
    show PySem.W.kitAny K t [u2] = _
    unfold PySem.W.kitAny
    rw [h2]
    cases b2 <;> rfl
end PD
set_option Elab.async false
set_option linter.all false
set_option maxRecDepth 100000
set_option maxHeartbeats 1000000
namespace PD
open PySem PySem.Spec PySem.W PySem.Calls PyProof.Rows
/-- an error of class C with its args at t and no dict -/
abbrev errO (C t : Addr) : Obj := excRec (.ref C) t none .none .none (.bool false)
/-- what an error's class says of itself -/
abbrev ClsO (h : Heap) (C : Addr) : Prop := ∃ nm q N bs bm hdct sn sub ab col dd k0 k1 k2 k3 k5, h.get? C = some (excClassObj nm q C N bs bm hdct sn sub ab col dd k0 k1 k2 k3 k5 "ValueError.__new__")
theorem check_init {M : Model} {A : Around} {E : Value → Shared → Prop} {Q : Unit → Shared → Prop} {s : Shared} {x C : Addr} {o : Obj} {v : Value} (hC : ClsO s.heap C) (hx : s.heap.get? x = some o) (hc : o.cls = .ref C) (hi : Looks M s.heap (isInstance (.ref x) (.type "ValueError")) true) (q : Q () s) :
    wpAny M A (checkBuiltinCall "ValueError.__init__" ⟨[.ref x, v], []⟩) Q E s := by
  have F := PySem.F.excBase_ValueError
  have hshort := F.noStar
  obtain ⟨nm, qn, N, bs, bm, hdct, sn, sub, ab, col, dd, k0, k1, k2, k3, k5, hC⟩ := hC
  simp only [checkBuiltinCall, F.initKind, F.initSplit, F.initRow]
  refine wpAny_bind (hi.here ?_)
  obtain ⟨h, g, d, t, os⟩ := s
  repeat (first | (with_reducible refine wpAny_loadPart_at hx ?_; rw [hc]) | (with_reducible refine wpAny_loadPart_at hC ?_) | wp_step)
  exact q
/-- the built-in __init__ of ValueError, called with the new error and a text: only its args are laid anew -/
theorem base_init {prog : Program} {w : World} {A : Around} {E : Value → Shared → Prop} {Q : Value → Shared → Prop} {h : Heap} {g : Array GenState} {d : Drawn} {tk : Nat} {os : OsState} {C x t0 : Addr} {v : Value}
    (hC : ClsO h C) (hx : h.get? x = some (errO C t0)) (hi : Looks (model prog w) h (isInstance (.ref x) (.type "ValueError")) true)
    (hq : ∀ h', (∀ b o, b ≠ x → h.get? b = some o → h'.get? b = some o) → h'.get? x = some (errO C h.objs.size) → (∃ o, h'.get? h.objs.size = some o) → Q .none ⟨h', g, d, tk, os⟩) :
    wpAny (model prog w) A (call (.builtin "ValueError.__init__") [.ref x, v]) Q E ⟨h, g, d, tk, os⟩ := by
  refine wpAny_call (codeAny_call_builtin PySem.F.excBase_ValueError.init.plain PySem.F.excBase_ValueError.initEntry ?_)
  refine check_init hC hx rfl hi ?_
  refine exc_init_tree (e := x) (t0 := t0) (cls := .ref C) (dv := none) (c2 := .none) (c3 := .none) (b4 := .bool false) (rest := [v]) hx ?_ ?_
  · show 1 ≤ sizeLine
    rw [sizeLine_eq]
    decide
  · intro h' k e t
    exact hq h' k e ⟨_, t⟩
/-- it is read off a class of the program, as it stands -/
theorem init_of_class {prog : Program} {w : World} {A : Around} {E : Value → Shared → Prop} {Q : Value × List Value → Shared → Prop} {s : Shared} {K : Frag} {BC : Addr} {pl : Sem Bool} (X : K.In s.heap) (hg : specialIn K (.ref BC) "__getattribute__" = some (some (.builtin "type.__getattribute__")))
    (hr : readsIn K BC (.type "type") = true) (e : findCls K (.ref BC) (.type "type") "__init__" = some (.val (.builtin "ValueError.__init__"))) (h : Q (.builtin "ValueError.__init__", []) { s with toks := s.toks + 1 }) :
    wpAny (model prog w) A (getMethod (.ref BC) "__init__" pl) Q E s := method_cls X hg (cls_value X hr e rfl h)
end PD
set_option Elab.async false
set_option linter.all false
set_option maxRecDepth 100000
set_option maxHeartbeats 1000000
namespace PD
open PySem PySem.Spec PySem.W PySem.Calls PyProof.Rows
/-- o.name(e, ..), o a class of the program, name found as a built-in -/
theorem ev_cls_call {prog : Program} {w : World} {A : Around} {E : Value → Shared → Prop} {s : Shared} {env : Env} {o : Expr} {name : Str} {apos pos : Pos} {args : List Expr} {Q : Value → Shared → Prop}
    (hbase : attributeBase o name env (eval o env) = eval o env)
    (hfew : ((backTo pos (starEach args env)).all (fun x => !x.1) && (backToKw pos (keywordEach [] env)).all (fun x => x.1.isSome)
      && decide (args.length + ([] : List Keyword).length + (if ([] : List Keyword).isEmpty then 0 else 1) < 30)) = true)
    (hline : (apos.endLine == pos.line) = true)
    (h : wpAny (model prog w) A (eval o env) (fun ov s₁ => ∃ f : Value, ∀ pl, wpAny (model prog w) A (getMethod ov name pl) (fun r s₂ => r = (f, []) ∧ wpAny (model prog w) A (callWith pos f [] (backTo pos (starEach args env)) []) Q E s₂) E s₁) E s) :
    wpAny (model prog w) A (eval (.Call (.Attribute o name apos) args [] pos) env) Q E s := by
  rw [arm_eval_Call, hbase]
  refine wpAny_bind (wpAny_mono h (fun ov s₁ h₁ => ?_) fun _ _ e => e)
  obtain ⟨f, hm⟩ := h₁
  refine wpAny_bind (wpAny_standAt ?_)
  have hform : methodCallForm (args.length + ([] : List Keyword).length) (backTo pos (starEach args env)) (backToKw pos (keywordEach [] env)) = true := hfew
  have hpos : methodCallPos true o env apos pos = pure pos := by unfold methodCallPos; simp [hline]
  unfold methodCall
  rw [hform]
  refine wpAny_bind (wpAny_holding (wpAny_mono (hm _) (fun r s₂ hr => ?_) fun _ _ e => e))
  obtain ⟨rfl, hc⟩ := hr
  exact wpAny_bind (wpAny_of_eq hpos hc)
/-- Base.__init__(self, 'text'), as a statement -/
theorem base_stmt {prog : Program} {w : World} {A : Around} {E : Value → Shared → Prop} {s : Shared} {env : Env} {base sf : Str} {text : Str} {j : Nat} {p p1 p2 apos pos pos2 : Pos} {K : Frag} {BC C x t0 : Addr} {Q : Flow → Shared → Prop}
    (X : K.In s.heap) (hg : specialIn K (.ref BC) "__getattribute__" = some (some (.builtin "type.__getattribute__"))) (hr : readsIn K BC (.type "type") = true) (e : findCls K (.ref BC) (.type "type") "__init__" = some (.val (.builtin "ValueError.__init__")))
    (hC : ClsO s.heap C) (hx : s.heap.get? x = some (errO C t0)) (hi : Looks (model prog w) s.heap (isInstance (.ref x) (.type "ValueError")) true)
    (hB : ∀ {Q : Value → Shared → Prop} {s' : Shared}, s'.heap = s.heap → Q (.ref BC) s' → wpAny (model prog w) A (eval (.Name base p) env) Q E s')
    (hS : ∀ {Q : Value → Shared → Prop} {s' : Shared}, s'.heap = s.heap → Q (.ref x) s' → wpAny (model prog w) A (eval (.Name sf p1) env) Q E s')
    (hbase : attributeBase (.Name base p) "__init__" env (eval (.Name base p) env) = eval (.Name base p) env)
    (hfew : ((backTo pos (starEach [.Name sf p1, .Constant (.str text) j p2] env)).all (fun x => !x.1) && (backToKw pos (keywordEach [] env)).all (fun x => x.1.isSome)
      && decide (([.Name sf p1, .Constant (.str text) j p2] : List Expr).length + ([] : List Keyword).length + (if ([] : List Keyword).isEmpty then 0 else 1) < 30)) = true)
    (hline : (apos.endLine == pos.line) = true)
    (he : starEach [.Name sf p1, .Constant (.str text) j p2] env = (false, eval (.Name sf p1) env) :: starEach [.Constant (.str text) j p2] env)
    (he2 : starEach [.Constant (.str text) j p2] env = (false, eval (.Constant (.str text) j p2) env) :: starEach [] env)
    (hpl : (backTo pos (starEach [.Constant (.str text) j p2] env)).any (·.1) = false) (hint : interactive env = false) (hsw : swapsWith (.Call (.Attribute (.Name base p) "__init__" apos) [.Name sf p1, .Constant (.str text) j p2] [] pos) none pos2.line env = pure false)
    (hq : ∀ h' tk, (∀ b o, b ≠ x → s.heap.get? b = some o → h'.get? b = some o) → h'.get? x = some (errO C s.heap.objs.size) → (∃ o, h'.get? s.heap.objs.size = some o) → Q .next { s with heap := h', toks := tk }) :
    wpAny (model prog w) A (exec (.Expr (.Call (.Attribute (.Name base p) "__init__" apos) [.Name sf p1, .Constant (.str text) j p2] [] pos) pos2) env) Q E s := by
  obtain ⟨h, g, d, tk, os⟩ := s
  refine wpAny_Expr_any (ev_cls_call hbase hfew hline (hB rfl ⟨.builtin "ValueError.__init__", fun pl => init_of_class X hg hr e ⟨rfl, ?_⟩⟩)) hint hsw
  refine callWith_builtin1 (args_cons (hS rfl (args_cons (Constant_str (args_nil ?_)) he2)) he) he hpl
  exact base_init hC hx hi fun h' k1 k2 k3 => hq h' _ k1 k2 k3
/-- self.x = x, behind it -/
theorem store_stmt {prog : Program} {w : World} {A : Around} {E : Value → Shared → Prop} {s : Shared} {env : Env} {sf fld : Str} {p1 p2 apos pos : Pos} {K : Frag} {C x t0 : Addr} {cd : ClassData} {v : Value} {Q : Flow → Shared → Prop}
    (X : K.In s.heap) (hx : s.heap.get? x = some (errO C t0)) (hcd : clsIn K C = some cd) (hm : PySem.HandSPX.refsVE cd.mro = true) (hh : cd.hasDict = true) (ha : findIn K (.ref C) fld = some none)
    (hs : findIn K (.ref C) "__setattr__" = some (some (.builtin "object.__setattr__")))
    (hS : ∀ {Q : Value → Shared → Prop} {s' : Shared}, s'.heap = s.heap → Q (.ref x) s' → wpAny (model prog w) A (eval (.Name sf p1) env) Q E s')
    (hV : ∀ {Q : Value → Shared → Prop} {s' : Shared}, s'.heap = s.heap → Q v s' → wpAny (model prog w) A (eval (.Name fld p2) env) Q E s')
    (hsw : swapsWith (.Name fld p2) (some (.Attribute (.Name sf p1) fld apos)) pos.line env = pure false)
    (hq : ∀ h' tk dx, (∀ b o, b ≠ x → s.heap.get? b = some o → h'.get? b = some o) → s.heap.objs.size ≤ dx → dx ≠ x → h'.get? x = some { cls := .ref C, dict := some dx, data := (errO C t0).data } → h'.Ns1 dx (fun y => if y = fld then some v else none) → Q .next { s with heap := h', toks := tk }) :
    wpAny (model prog w) A (exec (.Assign [.Attribute (.Name sf p1) fld apos] (.Name fld p2) pos) env) Q E s := by
  obtain ⟨h, g, d, tk, os⟩ := s
  refine plainObj_wpAny_Assign_Attribute (hV rfl (hS rfl ?_)) hsw
  refine set_plain X (ox := errO C t0) (od := none) ⟨hx, rfl, rfl, trivial⟩ hs ?_
  exact PySem.HandSPX.exc_osa X hx hcd hm hh ha fun h' tk' dx k dn dne hx' hn => hq h' tk' dx k dn dne hx' hn
end PD
set_option Elab.async false
set_option linter.all false
set_option maxRecDepth 100000
set_option maxHeartbeats 1000000
namespace PD
open PySem PySem.Spec PySem.W PySem.Calls PyProof.Rows
/-- what the written part says of an error class with one field -/
structure ErrF (K : Frag) (C BC fI : Addr) (base fld : Str) : Prop where
  k : keepIn K (.ref C) = true
  b : subIn K (.ref C) (.type "BaseException") = some true
  v : subIn K (.ref C) (.type "ValueError") = some true
  t : typeIn K (.ref C) = some (.type "type")
  cls : ∃ nm q N bs bm sn sub ab col dd k0 k1 k2 k3 k5, K.lookup C = some (excClassObj nm q C N bs bm true sn sub ab col dd k0 k1 k2 k3 k5 "ValueError.__new__") ∧ PySem.HandSPX.refsVE bm = true
  noF : findIn K (.ref C) fld = some none
  sa : findIn K (.ref C) "__setattr__" = some (some (.builtin "object.__setattr__"))
  ini : findIn K (.ref C) "__init__" = some (some (.ref fI))
  fn : typeIn K (.ref fI) = some (.type "function")
  gB : specialIn K (.ref BC) "__getattribute__" = some (some (.builtin "type.__getattribute__"))
  rB : readsIn K BC (.type "type") = true
  iB : findCls K (.ref BC) (.type "type") "__init__" = some (.val (.builtin "ValueError.__init__"))
theorem fld_init {prog : Program} {w : World} {A : Around} {R : Result → Shared → Prop} {s : Shared} {K : Frag} {mg : Str → Option Value} {C BC fI x t0 : Addr} {base fld text qual : Str} {v : Value} {j : Nat} {p1 p2 p3 p4 p5 p6 p7 p8 p9 p10 : Pos} {ar : Arguments} {sc : Scope}
    {oc doc pm cdv ct : Value} {od an : Option Addr} {osl : Array (Option Value)} (T : ErrF K C BC fI base fld) (X : K.In s.heap) (G : s.heap.Ns mainGlobals mg) (gB : mg base = some (.ref BC)) (hlim : s.heap.NoLimit) (hx : s.heap.get? x = some (errO C t0)) (hnx : K.lookup x = none) (hxm : mainGlobals ≠ x) (hroom : A.depth < recursionLimit)
    (ho : K.lookup fI = some ⟨oc, od, .func (fnOf "__init__" qual ar [.Expr (.Call (.Attribute (.Name base p1) "__init__" p2) [.Name "self" p3, .Constant (.str text) j p4] [] p5) p6, .Assign [.Attribute (.Name "self" p7) fld p8] (.Name fld p9) p10] sc .none .none doc pm an cdv ct), osl⟩) (hcd : codeIn K cdv qual = true)
    (hbind : BindsTo s (fnOf "__init__" qual ar [.Expr (.Call (.Attribute (.Name base p1) "__init__" p2) [.Name "self" p3, .Constant (.str text) j p4] [] p5) p6, .Assign [.Attribute (.Name "self" p7) fld p8] (.Name fld p9) p10] sc .none .none doc pm an cdv ct) ⟨[.ref x, v], []⟩ [("self", .ref x), (fld, v)])
    (hkind : (([("self", .ref x), (fld, v)] : List (Str × Value)).all fun y => sc.names.lookup y.1 == some .local || sc.names.lookup y.1 == some .cell) = true)
    (hco : sc.isCoroutine = false) (hgen : sc.isGenerator = false) (hk : sc.kind = .function)
    (lS : ∀ L, (envOfC qual sc L fI cdv).kindOf "self" = some .local) (lF : ∀ L, (envOfC qual sc L fI cdv).kindOf fld = some .local) (lB : ∀ L, (envOfC qual sc L fI cdv).kindOf base = some .globalImplicit)
    (mS : ∀ L, bindL (envOfC qual sc L fI cdv).kindOf [("self", .ref x), (fld, v)] (fun _ => none) "self" = some (.ref x)) (mF : ∀ L, bindL (envOfC qual sc L fI cdv).kindOf [("self", .ref x), (fld, v)] (fun _ => none) fld = some v)
    (dF : (fld == ("__debug__" : Str)) = false) (dB : (base == ("__debug__" : Str)) = false)
    (hbase : ∀ env, attributeBase (.Name base p1) "__init__" env (eval (.Name base p1) env) = eval (.Name base p1) env) (hline : (p2.endLine == p5.line) = true)
    (hfew : ∀ env, ((backTo p5 (starEach [.Name "self" p3, .Constant (.str text) j p4] env)).all (fun x => !x.1) && (backToKw p5 (keywordEach [] env)).all (fun x => x.1.isSome)
      && decide (([.Name "self" p3, .Constant (.str text) j p4] : List Expr).length + ([] : List Keyword).length + (if ([] : List Keyword).isEmpty then 0 else 1) < 30)) = true)
    (he : ∀ env, starEach [.Name "self" p3, .Constant (.str text) j p4] env = (false, eval (.Name "self" p3) env) :: starEach [.Constant (.str text) j p4] env)
    (he2 : ∀ env, starEach [.Constant (.str text) j p4] env = (false, eval (.Constant (.str text) j p4) env) :: starEach [] env)
    (hpl : ∀ env, (backTo p5 (starEach [.Constant (.str text) j p4] env)).any (·.1) = false) (hint : ∀ L, interactive (envOfC qual sc L fI cdv) = false)
    (hsw : ∀ L, swapsWith (.Call (.Attribute (.Name base p1) "__init__" p2) [.Name "self" p3, .Constant (.str text) j p4] [] p5) none p6.line (envOfC qual sc L fI cdv) = pure false)
    (hsw2 : ∀ L, swapsWith (.Name fld p9) (some (.Attribute (.Name "self" p7) fld p8)) p10.line (envOfC qual sc L fI cdv) = pure false)
    (hq : ∀ h' tk dx t1, (∀ b o, b ≠ x → s.heap.get? b = some o → h'.get? b = some o) → s.heap.objs.size ≤ dx → dx ≠ x → h'.get? x = some { cls := .ref C, dict := some dx, data := (errO C t1).data } → h'.Ns1 dx (fun y => if y = fld then some v else none) → R (.ok (.ret .none)) { s with heap := h', toks := tk }) :
    codeAny (model prog w) A (.call (.ref fI) ⟨[.ref x, v], []⟩) R s := by
  obtain ⟨nm, q, N, bs, bm, sn, sub, ab, col, dd, k0, k1, k2, k3, k5, hC, hbm⟩ := T.cls
  have hcl : clsIn K C = some { name := nm, bases := bs, mro := .ref C :: bm, ns := N, qualname := q, hasDict := true, slotNames := sn, subclasses := sub, abstract := ab, collection := col, hasDel := false } := by unfold clsIn; rw [hC] <;> rfl
  refine Att.call_fn (binds := [("self", .ref x), (fld, v)]) X hlim ho hcd hroom hbind hkind (fun s₁ IC => ?_) hco hgen hk
  have hn := IC.toInCall.ns
  obtain ⟨h₁, tk₁, rfl, kp⟩ := IC.done
  have hxL : s.heap.objs.size ≠ x := Nat.ne_of_gt (Heap.lt_size hx)
  have X₁ : K.In h₁ := X.keeps kp
  have hx₁ := kp _ _ hx
  have C₁ : ClsO h₁ C := ⟨nm, q, N, bs, bm, true, sn, sub, ab, col, dd, k0, k1, k2, k3, k5, X₁ _ _ hC⟩
  have I₁ : InstAt h₁ x (errO C t0) C none := ⟨hx₁, rfl, rfl, trivial⟩
  have z : s.heap.objs.size < h₁.objs.size := hn.lt
  show wpAny _ _ (execs [_, _] _) _ _ _
  refine wpAny_execs_cons (base_stmt (s := { s with heap := h₁, toks := tk₁ }) X₁ T.gB T.rB T.iB C₁ hx₁ (I₁.type.andThen (looks_subIn X₁ T.v))
    (fun hh qq => Calls.Name_function_global hk (lB _) (Calls.loadGlobal_global (by rw [hh]; exact G.keeps kp) gB qq) dB)
    (fun hh qq => wpAny_Name (wpAny_loadName_local hk (lS _) (by rw [hh]; exact hn) (mS _) qq) (by decide))
    (hbase _) (hfew _) hline (he _) (he2 _) (hpl _) (hint _) (hsw _) fun h₂ tk₂ kp2 hx₂ _ => ?_)
  have X₂ : K.In h₂ := fun a o e => kp2 a o (fun w => by rw [w, hnx] at e; cases e) (X₁ a o e)
  have hn₂ := hn.at (h' := h₂) fun o e => kp2 _ _ hxL e
  refine wpAny_execs_cons (store_stmt (s := { s with heap := h₂, toks := tk₂ }) X₂ hx₂ hcl (show PySem.HandSPX.refsVE (.ref C :: bm) = true from hbm) rfl T.noF T.sa
    (fun hh qq => wpAny_Name (wpAny_loadName_local hk (lS _) (by rw [hh]; exact hn₂) (mS _) qq) (by decide))
    (fun hh qq => wpAny_Name (wpAny_loadName_local hk (lF _) (by rw [hh]; exact hn₂) (mF _) qq) dF)
    (hsw2 _) fun h₃ tk₃ dx kp3 dn dne hx₃ hn₃ => ?_)
  exact wpAny_execs_nil (hq h₃ tk₃ dx _ (fun b o hb e => kp3 b o hb (kp2 b o hb (kp b o e))) (Nat.le_of_lt (Nat.lt_of_lt_of_le hn₂.lt dn)) dne hx₃ hn₃)
end PD
set_option Elab.async false
set_option linter.all false
set_option maxRecDepth 100000
set_option maxHeartbeats 1000000
namespace PD
open PySem PySem.Spec PySem.W PySem.Calls PyProof.Rows
/-- what an error's __init__ leaves: the error has a new dict, whose only entry is the field -/
structure InitEnd (h h' : Heap) (x C : Addr) (fld : Str) (v : Value) (dx t1 : Addr) : Prop where
  keep : ∀ b o, b ≠ x → h.get? b = some o → h'.get? b = some o
  big : h.objs.size ≤ dx
  ne : dx ≠ x
  obj : h'.get? x = some { cls := .ref C, dict := some dx, data := (errO C t1).data }
  ns : h'.Ns1 dx (fun y => if y = fld then some v else none)
/-- an error class with one field: its facts, and its __init__ runs -/
structure ErrC (K : Frag) (mg : Str → Option Value) (C BC fI : Addr) (base fld : Str) : Prop extends ErrF K C BC fI base fld where
  run : ∀ {prog : Program} {w : World} {A : Around} {R : Result → Shared → Prop} {s : Shared} {x t0 : Addr} {v : Value}, K.In s.heap → s.heap.Ns mainGlobals mg → s.heap.NoLimit → s.heap.get? x = some (errO C t0) → K.lookup x = none → mainGlobals ≠ x → A.depth < recursionLimit →
    (∀ h' tk dx t1, InitEnd s.heap h' x C fld v dx t1 → R (.ok (.ret .none)) { s with heap := h', toks := tk }) → codeAny (model prog w) A (.call (.ref fI) ⟨[.ref x, v], []⟩) R s
/-- a made error -/
structure ErrMade (h h' : Heap) (C : Addr) (fld : Str) (v : Value) (e d : Addr) : Prop where
  keep : ∀ b o, h.get? b = some o → h'.get? b = some o
  new : h.objs.size ≤ e
  obj : ∃ oe vs, h'.get? e = some oe ∧ oe.cls = .ref C ∧ oe.dict = some d ∧ oe.data = .fields vs ∧ vs[1]? = some .none ∧ vs[2]? = some .none
  big : h.objs.size ≤ d
  ne : d ≠ e
  ns : h'.Ns1 d (fun y => if y = fld then some v else none)
theorem err_made {prog : Program} {w : World} {A : Around} {R : Result → Shared → Prop} {s : Shared} {K : Frag} {mg : Str → Option Value} {C BC fI : Addr} {base fld : Str} {v : Value} (T : ErrC K mg C BC fI base fld) (X : K.In s.heap) (G : s.heap.Ns mainGlobals mg) (hlim : s.heap.NoLimit) (hroom : A.depth + 1 < recursionLimit)
    (hq : ∀ h' tk e d, ErrMade s.heap h' C fld v e d → R (.ok (.ret (.ref e))) { s with heap := h', toks := tk }) : codeAny (model prog w) A (.call (.ref C) ⟨[v], []⟩) R s := by
  obtain ⟨nm, q, N, bs, bm, sn, sub, ab, col, dd, k0, k1, k2, k3, k5, hC, hbm⟩ := T.cls
  obtain ⟨hp, g, dr, tk, os⟩ := s
  have old : ∀ b o, hp.get? b = some o → ((hp.push (kdv_tup [v])).push (errO C hp.objs.size)).get? b = some o := fun b o e => Heap.get?_push_of_some _ (Heap.get?_push_of_some _ e)
  have at1 : ((hp.push (kdv_tup [v])).push (errO C hp.objs.size)).get? (hp.objs.size + 1) = some (errO C hp.objs.size) := by heap_get
  have out : K.lookup (hp.objs.size + 1) = none := by
    cases e : K.lookup (hp.objs.size + 1) with
    | none => rfl
    | some o =>
      exact absurd (Nat.lt_of_succ_lt (Heap.lt_size (X _ _ e : hp.get? (hp.objs.size + 1) = some o))) (Nat.lt_irrefl _)
  have mg1 : mainGlobals ≠ hp.objs.size + 1 := fun e => by
    have this : mainGlobals < hp.objs.size := G.lt
    rw [e] at this
    exact absurd (Nat.lt_of_succ_lt this) (Nat.lt_irrefl _)
  refine PySem.HandSPX.call_own PySem.F.excBase_ValueError (fun X => PySem.HandSPX.refsVE_contains X bm hbm) (X _ _ hC) (looks_findIn X T.ini) (fun self => PySem.W.bind_fn X self T.fn) (by show 1 ≤ sizeLine; rw [sizeLine_eq]; decide) ?_
  refine T.run (s := ⟨(hp.push (kdv_tup [v])).push (errO C hp.objs.size), g, dr, tk, os⟩) (X.keeps old) (G.keeps old) (hlim.keeps old) at1 out mg1 hroom fun h' tk' dx t1 Z => ?_
  have z : hp.objs.size + 1 + 1 ≤ dx := by
    have := Z.big
    rw [Heap.size_push, Heap.size_push] at this
    exact this
  refine ⟨rfl, hq h' tk' (hp.objs.size + 1) dx ⟨fun b o e => Z.keep b o (Nat.ne_of_lt (Nat.lt_succ_of_lt (Heap.lt_size e))) (old b o e), Nat.le_succ _, ⟨_, _, Z.obj, rfl, rfl, rfl, rfl, rfl⟩, Nat.le_trans (Nat.le_trans (Nat.le_succ _) (Nat.le_succ _)) z, Z.ne, Z.ns⟩⟩
end PD
set_option Elab.async false
set_option linter.all false
set_option maxRecDepth 100000
set_option maxHeartbeats 1000000
namespace PD
open PySem PySem.Spec PyProof.Rows L2
theorem fld_rel {v : V} {v' : Value} {fld : Str} (r : RelV v v') (f : Str) : RelO (List.lookup f [(fld, v)]) (if f = fld then some v' else none) := by
  have q : List.lookup f [(fld, v)] = if f = fld then some v else none := by
    rw [List.lookup_cons]
    by_cases h : f = fld
    · rw [if_pos h, h, beq_self_eq_true]
    · rw [if_neg h, beq_eq_false_iff_ne.mpr h]
      rfl
  rw [q]
  split
  · exact r
  · trivial
def tMkE (C : Addr) (fld : Str) (te : TE) : L2.St → Hp → XK → Prop := fun σ H Q => te σ H fun v H1 => ∀ d, H1 d = none → Q (.ref C) (some d) (upd H1 d (.xd [(fld, v)]))
theorem pmk_err {X : Cx} {C BC fI : Addr} {base fld nmC : Str} {a : Expr} {te : TE} {p pos : Pos} {k : Nat} (T : ErrC X.K X.mg C BC fI base fld) (gC : X.mg nmC = some (.ref C)) (hr : Room k X.A) (ha : PE X a te) (hg : Gl X nmC) (hdb : (nmC == ("__debug__" : Str)) = false)
    (he : starEach [a] X.env = (false, eval a X.env) :: starEach [] X.env := by rfl) (hpl : (backTo pos (starEach [] X.env)).any (·.1) = false := by rfl) :
    L2N.PMk X (.Call (.Name nmC p) [a] [] pos) (tMkE C fld te) := by
  intro pins s σ H Q I h
  refine wpAny_Call_Name_kw (ld_glob I hg gC ?_ hdb)
  refine PySem.W.callWith_K (h₀ := X.base) I.ok.mod.kin T.k (args_cons (thn (ha.run pins s σ H _ I h) fun u s1 hh => args_nil ?_) he) he hpl
  obtain ⟨v, H1, I1, rv, q1⟩ := hh
  refine ⟨I1.kIn, ?_⟩
  show wpAny _ _ (call (.ref C) [u]) _ _ _
  have hlim := I1.nolimit
  have G : s1.heap.Ns mainGlobals X.mg := I1.mod.glob.keeps I1.bk
  obtain ⟨hp, g, dr, tk, os⟩ := s1
  refine wpAny_call (err_made T I1.kIn G hlim (by have := hr.dp; omega) fun h' tk' e d M => ?_)
  show L2N.MkP X pins σ Q (.ref e) ⟨h', g, dr, tk', os⟩
  obtain ⟨oe, fv, hoe, hc, hd, hdat, h1, h2⟩ := M.obj
  obtain ⟨G', g1, g2⟩ := restrict h' fun b => decide (b ≠ e)
  have gk : ∀ b, b ≠ e → G'.get? b = h'.get? b := fun b hb => g1 b (decide_eq_true hb)
  have ge : G'.get? e = none := g2 e (by simp)
  have old : ∀ b o, hp.get? b = some o → G'.get? b = some o := fun b o q => (gk b (Nat.ne_of_lt (Nat.lt_of_lt_of_le (Heap.lt_size q) M.new))).trans (M.keep b o q)
  have ob : ObjOk X.prog X.w (upd H1 d (.xd [(fld, v)])) G' d (.xd [(fld, v)]) := ⟨_, M.ns.at (fun o q => (gk d M.ne).trans q), fun f => fld_rel rv f⟩
  have J : Inv X pins σ (upd H1 d (.xd [(fld, v)])) ⟨G', g, dr, tk', os⟩ := I1.laid (t' := tk') old M.big ob
  refine ⟨e, oe, fv, ⟨G', g, dr, tk', os⟩, _, .ref C, some d, rfl, J, fun b o q => ?_, ge, hoe, ⟨hc, hd, fun vs' e' => by rw [hdat] at e'; cases e'; exact h2⟩, hdat, h1, ?_, rfl, I1.bare, raises_own T.b T.t, q1 d (I1.hok.fresh M.big)⟩
  · by_cases hb : b = e
    · have q' : G'.get? b = some o := q
      rw [hb, ge] at q'
      cases q'
    · exact (gk b hb).symm.trans q
  · rw [upd_ne (Ne.symm M.ne)]
    exact I1.hok.fresh M.new
/-- raise C(e), in data -/
def gRaise1 (C : Addr) (fld : Str) (f : Dn) : Sn := fun ρ => oR (f ρ) ρ fun d => .exc ⟨C, [(fld, d)]⟩ ρ
end PD
set_option Elab.async false
set_option linter.all false
set_option maxRecDepth 100000
set_option maxHeartbeats 1000000
namespace PD
open PySem PySem.Spec PyProof.Rows L2
/-- what the written part says of a class for the reading of its field -/
structure ErrG (K : PySem.W.Frag) (C : Addr) (fld : Str) : Prop where
  ga : PySem.W.findIn K (.ref C) "__getattribute__" = some (some (.builtin "BaseException.__getattribute__"))
  gt : PySem.W.findIn K (.ref C) "__getattr__" = some none
  b : PySem.W.subIn K (.ref C) (.type "BaseException") = some true
  hd : PySem.W.hasDictIn K C = true
  no : PySem.W.findIn K (.ref C) fld = some none
noncomputable def dFld (i : Nat) (cs : List Addr) (fld : Str) (a : Addr) (c : Value) (d : Option Addr) : Dn := fun ρ => match exnOf ρ i a c d with
  | some e => if e.cls ∈ cs then (match e.fs.lookup fld with | some y => .ok y | none => .bad) else .bad
  | none => .bad
theorem lookup_rel {K : PySem.W.Frag} {G : Hp} {fld : Str} : ∀ {fs : List (Str × V)} {gs : List (Str × PyData)} {y : PyData}, fs.map (·.1) = gs.map (·.1) → RpAll K G (fs.map (·.2)) (gs.map (·.2)) → gs.lookup fld = some y → ∃ v, fs.lookup fld = some v ∧ Rp K G v y
  | [], [], y, _, _, h => by cases h
  | [], _ :: _, _, h, _, _ => by cases h
  | _ :: _, [], _, h, _, _ => by cases h
  | (n, v) :: fs, (m, z) :: gs, y, h, r, e => by
    rw [List.map_cons, List.map_cons] at h r
    injection h with h1 h2
    have h1 : n = m := h1
    subst h1
    cases r with
    | cons r0 rr =>
      rw [List.lookup_cons] at e ⊢
      cases q : fld == n with
      | true =>
        rw [q] at e
        cases e
        exact ⟨v, rfl, r0⟩
      | false =>
        rw [q] at e
        exact lookup_rel h2 rr e
theorem e_fld {X : Cx} {Tb : List Addr} {W : WX} {a : Addr} {oe : Obj} {cls : Value} {d : Option Addr} {pn : List (Addr × Obj)} {i : Nat} {cs : List Addr} {x fld : Str} {p1 pos : Pos} (hz : Zc cls d oe) (hf : ∃ vs, oe.data = .fields vs) (hT : ∀ C ∈ cs, ErrG X.K C fld)
    (ho : X.N[i]? = some x) (hv : Vis X.env.scope x) (hd : (x == ("__debug__" : Str)) = false := by decide) (hcd : (x == ("__classdict__" : Str)) = false := by decide)
    (hb : attributeBase (.Name x p1) fld X.env (eval (.Name x p1) X.env) = eval (.Name x p1) X.env := by rfl) :
    PE (X.suite a ((a, oe) :: pn)) (.Attribute (.Name x p1) fld pos) (tD X.K Tb W (dFld i cs fld a cls d)) := by
  refine ⟨fun pins s σ H Q I h => ?_⟩
  obtain ⟨H0, O0, O, ρ, st, h⟩ := h
  unfold dFld at h
  split at h
  · rename_i ex heq
    split at h
    · rename_i hcs
      split at h
      · rename_i y hy
        obtain ⟨u0, h1, rfl, hx1, hx2⟩ := st.slot i _ (exnOf_is heq)
        have T := hT _ hcs
        refine attr_of hb (thn ((pe_var (X := X.suite a ((a, oe) :: pn)) ho hv hd hcd).run pins s σ H (fun v H1 => v = .ref a ∧ H1 = H) I ⟨_, h1, rfl, rfl⟩) fun u s1 hh => ?_)
        obtain ⟨xv, H1, I1, rx, ex1, rfl⟩ := hh
        subst ex1
        obtain rfl : u = Value.ref a := rx
        rcases hx2 with ⟨e0, _⟩ | ⟨dd, fs, rfl, hdd, hk, hr⟩
        · rw [e0] at hy; cases hy
        · obtain ⟨v, hv1, rv⟩ := lookup_rel hk hr hy
          obtain ⟨ha, _⟩ := I1.pin (a, oe) (List.mem_append_left _ List.mem_cons_self)
          obtain ⟨vs, hdat⟩ := hf
          have hob : ObjOk X.prog X.w H1 s1.heap dd (.xd fs) := I1.hok dd _ hdd
          obtain ⟨mA, hns, hrel⟩ := hob
          obtain ⟨od, hod, hl⟩ := lookIn_ns hns
          obtain ⟨u2, hu, ru⟩ := RelO.some_of (v := v) (o := mA fld) (by rw [← hv1]; exact hrel fld)
          have J : PySem.W.InstAt s1.heap a oe ex.cls (some od) := ⟨ha, by rw [hz.1]; exact hx1, by unfold PySem.W.notCls; rw [hdat] <;> rfl, by rw [hz.2]; exact hod⟩
          exact PySem.HandSPX.exc_get I1.kIn J T.ga T.gt T.b (PySem.W.findObj_own T.hd T.no rfl (by rw [hl, hu])) (handed_of ru) ⟨v, H1, I1.tok _, ru, h v H1 (Ext.refl H1) rv⟩
      · exact h.elim
    · exact h.elim
  · exact h.elim
end PD
set_option Elab.async false
set_option linter.all false
set_option maxRecDepth 100000
set_option maxHeartbeats 1000000
namespace PD
open PySem PySem.Spec PyProof.Rows L2
/-- an error class with one field, whatever its base and its __init__ -/
def ErrX (K : PySem.W.Frag) (mg : Str → Option Value) (C : Addr) (fld : Str) : Prop := ∃ (BC fI : Addr) (base : Str), ErrC K mg C BC fI base fld
end PD
set_option Elab.async false
set_option linter.all false
set_option maxRecDepth 100000
set_option maxHeartbeats 1000000
namespace PD
open PySem PySem.Spec PyProof.Rows L2 HotX L2H
section
variable {P : Program} {w : World} {K : PySem.W.Frag} {mg : Str → Option Value} {base : Heap} {Tb : List Addr}
/-- a def, by its body, where an exception is being handled -/
theorem fn_okH {x qual : Str} {st : Stmt} {f : Addr} {fd : FuncData} {N ps : List Str} {k : Nat} {g : Sn} (F : Fun K x qual st f fd) (S : FnScope N ps (defScope st))
    (hb : ∀ (cdv : Value) (A : Around) (outer : List Env) (s : Shared) (H : Hp) (E : XK) (p : Addr × Obj), Hot1 A p → RoomH k (A.deeper (envOfC qual (defScope st) s.heap.objs.size f cdv)) →
      PSs (cxH (L2N.CX P w) P w K mg base N qual (defScope st) f cdv A outer s H E p) (defBody st) (tS K Tb (WE E) g)) :
    FnH P w K mg base (L2N.CX P w) (k + 1) f fd ps (spD K Tb (runD N.length ps.length g)) := by
  obtain ⟨oc, od, kV, doc, pm, an, cdv, ct, osl, rfl, lk, hcd⟩ := F.ex
  refine fn_ofH lk hcd S (fun vs H Q E h => ?_) fun A outer s H vs Q E p hot hr h => ⟨_, hb cdv A outer s H E p hot hr, ?_⟩
  · obtain ⟨O, ds, al, tb, r, h⟩ := h
    unfold runD at h
    split at h
    · rename_i e
      rw [r.length]; exact e
    · exact h.elim
  · obtain ⟨O, ds, al, tb, r, h⟩ := h
    unfold runD at h
    split at h
    · rename_i e
      have st := St0.init (N.length - ds.length) al tb r
      refine ⟨H, O, O, startR N.length ds, ?_, ?_⟩
      · unfold L2.start startR
        rw [r.length]
        exact st
      · cases q : g (startR N.length ds) with
        | nx ρ => rw [q] at h; exact fun O' σ' H' st' => h .non H' st'.ext .non
        | rt d => rw [q] at h; exact fun v H' e' r' => h v H' e' r'
        | exc x ρ => rw [q] at h; exact fun O' σ' H' c d st' ex => h c d H' st'.ext (by
            obtain ⟨h1, h2⟩ := ex
            refine ⟨h1, ?_⟩
            rcases h2 with h2 | ⟨dd, fs, h3, h4, h5, h6⟩
            · exact .inl h2
            · exact .inr ⟨dd, fs, h3, h4, h5, h6.mono (Sub.less st'.sub)⟩)
        | bk ρ => rw [q] at h; exact h.elim
        | ct ρ => rw [q] at h; exact h.elim
        | bad => rw [q] at h; exact h.elim
    · exact h.elim
/-- what a def of the program promises where an exception is being handled -/
def FnDH (P : Program) (w : World) (K : PySem.W.Frag) (mg : Str → Option Value) (base : Heap) (Tb : List Addr) (x : Str) (k : Nat) (m : List PyData → R PyData) : Prop :=
  ∃ (f : Addr) (fd : FuncData) (ps : List Str), FnH P w K mg base (L2N.CX P w) k f fd ps (spD K Tb m) ∧ mg x = some (.ref f) ∧ PySem.W.keepIn K (.ref f) = true ∧ Binds K fd ps []
end
end PD
namespace PD
open PySem PySem.Spec PyProof.Rows L2 HotX L2H
section
variable {X : Cx} {Tb : List Addr} {W : WX} {k j : Nat} {m : List PyData → R PyData} {x : Str} {p pos : Pos} {e : Expr} {es : List Expr} {gl : DnL}
theorem e_callH (F : FnDH X.prog X.w X.K X.mg X.base Tb x k m) (hx : ∀ σ, PassesAt (L2N.CX X.prog X.w) X σ (L2.WE W σ)) (hr : RoomH j X.A) (hc : HotC X) (ha : PA X (e :: es) (tDs X.K Tb W gl)) (hj : k ≤ j := by decide) (hg : Gl X x := by rfl)
    (hdb : (x == ("__debug__" : Str)) = false := by decide) (he : starEach (e :: es) X.env = (false, eval e X.env) :: starEach es X.env := by rfl) (hpl : (backTo pos (starEach es X.env)).any (·.1) = false := by rfl) :
    PE X (.Call (.Name x p) (e :: es) [] pos) (tD X.K Tb W (dArg m gl)) := by
  obtain ⟨f, fd, ps, h, g, kp, b⟩ := F
  exact (pe_callH h (hr.mono hj) hc hg g kp b hx ha hdb he hpl).by fun σ H Q ⟨H0, O0, O, ρ, st, h⟩ => ⟨H0, O0, O, ρ, st, by
    refine Post.then h fun ds vs H1 ex r k => ?_
    exact ⟨O, ds, (st.step ex).al, (st.step ex).tab, r, k⟩⟩
end
end PD
set_option Elab.async false
set_option linter.all false
set_option maxRecDepth 100000
set_option maxHeartbeats 1000000
namespace PD
open PySem PySem.Spec PyProof.Rows L2 HotX L2H
section
variable {X : Cx} {a : Addr} {oe : Obj} {cls : Value} {d : Option Addr} {pn : List (Addr × Obj)} {k : Nat}
theorem hotC_suite (hz : L2N.Zn cls d oe) (hf : ∃ vs, oe.data = .fields vs) : HotC (X.suite a ((a, oe) :: pn)) := by
  obtain ⟨vs, e⟩ := hf
  exact ⟨(a, oe), ⟨rfl, vs, e, hz.2.2 vs e⟩, List.mem_cons_self⟩
theorem roomH_suite (r : Room k X.A) : RoomH k (X.suite a ((a, oe) :: pn)).A := ⟨r.dp, r.un⟩
end
theorem kit_any3 {K : PySem.W.Frag} {t u1 u2 u3 : Value} {b1 b2 b3 : Bool} (h1 : PySem.W.kitOne K t u1 = some b1) (h2 : PySem.W.kitOne K t u2 = some b2) (h3 : PySem.W.kitOne K t u3 = some b3) : PySem.W.kitAny K t [u1, u2, u3] = some (b1 || (b2 || b3)) := by
  have e := kit_any2 h2 h3
  unfold PySem.W.kitAny
  rw [h1]
  cases b1 with
  | true => rfl
  | false =>
    show PySem.W.kitAny K t [u2, u3] = _
    rw [e]; rfl
def rIsiE3 (K : PySem.W.Frag) (a : Addr) (cls : Value) (d : Option Addr) : List V → Hp → VK → Prop := fun xs H Q => ∃ (tp : Addr) (c1 c2 c3 : V) (C : Addr) (u1 u2 u3 : Value) (b : Bool), xs = [.ref a, .ref tp] ∧ SqT K H tp [c1, c2, c3] ∧ ClsV c1 u1 ∧ ClsV c2 u2 ∧ ClsV c3 u3 ∧ cls = .ref C ∧ ExcC K C ∧ PySem.W.kitAny K (.ref C) [u1, u2, u3] = some b ∧ (d = none ∨ ∃ dd fs, d = some dd ∧ H dd = some (.xd fs)) ∧ Q (.bl b) H
section
variable {X : Cx} {Tb : List Addr} {W : WX} {a : Addr} {oe : Obj} {cls : Value} {d : Option Addr} {pn : List (Addr × Obj)}
theorem vals3' {a b c : V} {us : List Value} (r : Vals [a, b, c] us) : ∃ u1 u2 u3, us = [u1, u2, u3] ∧ RelV a u1 ∧ RelV b u2 ∧ RelV c u3 := by
  cases r with
  | cons r1 r =>
    cases r with
    | cons r2 r =>
      cases r with
      | cons r3 r =>
        cases r
        exact ⟨_, _, _, rfl, r1, r2, r3⟩
theorem call_isiE3 (hz : Zc cls d oe) (hf : ∃ vs, oe.data = .fields vs) : CallR (X.suite a ((a, oe) :: pn)) (.builtin "isinstance") (rIsiE3 X.K a cls d) := by
  intro pins s σ H xs us Q I r h
  obtain ⟨tp, c1, c2, c3, C, w1, w2, w3, b, rfl, hT, k1, k2, k3, rfl, E, e, hd, q⟩ := h
  obtain ⟨u1, u2, rfl, r1, r2⟩ := vals2 r
  cases (show u1 = Value.ref a from r1)
  cases (show u2 = Value.ref tp from r2)
  obtain ⟨its, rv, ⟨o, g, gc, n, gd⟩, _⟩ := I.tuple hT
  obtain ⟨i1, i2, i3, rfl, s1, s2, s3⟩ := vals3' rv
  cases k1.eq s1
  cases k2.eq s2
  cases k3.eq s3
  obtain ⟨oc, odd, odt, osl⟩ := o
  dsimp only at gc gd
  subst gc gd
  obtain ⟨ha, _⟩ := I.pin (a, oe) (List.mem_append_left _ List.mem_cons_self)
  obtain ⟨vs, hdat⟩ := hf
  have J : ∃ od, PySem.W.InstAt s.heap a oe C od := by
    rcases hd with rfl | ⟨dd, fs, rfl, hdd⟩
    · exact ⟨none, ha, hz.1, by unfold PySem.W.notCls; rw [hdat] <;> rfl, by rw [hz.2]; trivial⟩
    · have hx : ObjOk X.prog X.w H s.heap dd (.xd fs) := I.hok dd _ hdd
      obtain ⟨mA, hns, hr⟩ := hx
      obtain ⟨od, ho, hl⟩ := lookIn_ns hns
      exact ⟨some od, ha, hz.1, by unfold PySem.W.notCls; rw [hdat] <;> rfl, by rw [hz.2]; exact ho⟩
  obtain ⟨od, J⟩ := J
  exact PySem.W.kia_tup (PySem.W.kitx_exc E.cl E.ga E.gt E.b E.ca E.sp E.tk E.mo) I.kIn J g e (fun z => nomatch z) fun tk => ⟨.bl b, H, I.tok tk, rfl, q⟩
theorem e_isiE3 {i : Nat} {x y1 y2 y3 : Str} {u1 u2 u3 : Value} {cv1 cv2 cv3 : V} {bs : List (Addr × Bool)} {p p1 py1 py2 py3 pt pos : Pos} {nt : Nat} (hz : Zc cls d oe) (hf : ∃ vs, oe.data = .fields vs) (B : Bi X.mg) (hbs : ∀ q ∈ bs, ExcC X.K q.1 ∧ PySem.W.kitAny X.K (.ref q.1) [u1, u2, u3] = some q.2) (hcv1 : ClsV cv1 u1) (hcv2 : ClsV cv2 u2) (hcv3 : ClsV cv3 u3)
    (hy1 : PE (X.suite a ((a, oe) :: pn)) (.Name y1 py1) (tC cv1)) (hy2 : PE (X.suite a ((a, oe) :: pn)) (.Name y2 py2) (tC cv2)) (hy3 : PE (X.suite a ((a, oe) :: pn)) (.Name y3 py3) (tC cv3)) (ho : X.N[i]? = some x) (hv : Vis X.env.scope x) (hd : (x == ("__debug__" : Str)) = false := by decide) (hcd : (x == ("__classdict__" : Str)) = false := by decide) (hg : Gl X "isinstance" := by rfl)
    (he : starEach [.Name x p1, .Tuple [.Name y1 py1, .Name y2 py2, .Name y3 py3] nt pt] X.env = (false, eval (.Name x p1) X.env) :: starEach [.Tuple [.Name y1 py1, .Name y2 py2, .Name y3 py3] nt pt] X.env := by rfl) (he2 : starEach [.Tuple [.Name y1 py1, .Name y2 py2, .Name y3 py3] nt pt] X.env = (false, eval (.Tuple [.Name y1 py1, .Name y2 py2, .Name y3 py3] nt pt) X.env) :: starEach [] X.env := by rfl)
    (he3 : starEach [.Name y1 py1, .Name y2 py2, .Name y3 py3] X.env = (false, eval (.Name y1 py1) X.env) :: starEach [.Name y2 py2, .Name y3 py3] X.env := by rfl) (he4 : starEach [.Name y2 py2, .Name y3 py3] X.env = (false, eval (.Name y2 py2) X.env) :: starEach [.Name y3 py3] X.env := by rfl) (he5 : starEach [.Name y3 py3] X.env = (false, eval (.Name y3 py3) X.env) :: starEach [] X.env := by rfl)
    (hpl : (backTo pos (starEach [.Tuple [.Name y1 py1, .Name y2 py2, .Name y3 py3] nt pt] X.env)).any (·.1) = false := by rfl) :
    PE (X.suite a ((a, oe) :: pn)) (.Call (.Name "isinstance" p) [.Name x p1, .Tuple [.Name y1 py1, .Name y2 py2, .Name y3 py3] nt pt] [] pos) (tD X.K Tb W (dIsiE i bs a cls d)) :=
  (pe_callB (X := X.suite a ((a, oe) :: pn)) (call_isiE3 hz hf) hg B.isinstance boot_isinstance (pa_cons (pe_var ho hv hd hcd) (pa_cons (pe_tup (pa_cons hy1 (pa_cons hy2 (pa_cons hy3 pa_nil he5) he4) he3)) pa_nil he2) he) (by decide) (by decide) he hpl).by fun σ H Q ⟨H0, O0, O, ρ, st, h⟩ => by
    unfold dIsiE at h
    split at h
    · rename_i ex heq
      obtain ⟨v, h1, rfl, hx1, hx2⟩ := st.slot i _ (exnOf_is heq)
      split at h
      · rename_i b hb
        obtain ⟨E, kb⟩ := hbs _ (lookup_mem hb)
        refine ⟨.ref a, h1, (by show 3 ≤ sizeLine; rw [sizeLine_eq]; decide), fun p hp => ⟨p, cv1, cv2, cv3, ex.cls, u1, u2, u3, b, rfl, .inl (.of upd_same), hcv1, hcv2, hcv3, hx1, E, kb, ?_, h (.bl b) _ (Ext.new hp) (.bl b)⟩⟩
        rcases hx2 with ⟨_, z⟩ | ⟨dd, fs, z1, z2, _⟩
        · exact .inl z
        · refine .inr ⟨dd, fs, z1, ?_⟩
          rw [upd_ne (fun w => by rw [w, hp] at z2; cases z2)]
          exact z2
      · exact h.elim
    · exact h.elim
/-- three classes of the program -/
theorem e_isiOOO {i : Nat} {x y1 y2 y3 : Str} {C1 C2 C3 : Addr} {bs : List (Addr × Bool)} {p p1 py1 py2 py3 pt pos : Pos} {nt : Nat} (hz : Zc cls d oe) (hf : ∃ vs, oe.data = .fields vs) (B : Bi X.mg) (hbs : ∀ q ∈ bs, ExcC X.K q.1 ∧ PySem.W.kitAny X.K (.ref q.1) [.ref C1, .ref C2, .ref C3] = some q.2) (gy1 : X.mg y1 = some (.ref C1)) (hgy1 : Gl X y1) (gy2 : X.mg y2 = some (.ref C2)) (hgy2 : Gl X y2) (gy3 : X.mg y3 = some (.ref C3)) (hgy3 : Gl X y3)
    (ho : X.N[i]? = some x) (hv : Vis X.env.scope x) (hdy1 : (y1 == ("__debug__" : Str)) = false := by decide) (hdy2 : (y2 == ("__debug__" : Str)) = false := by decide) (hdy3 : (y3 == ("__debug__" : Str)) = false := by decide) (hd : (x == ("__debug__" : Str)) = false := by decide) (hcd : (x == ("__classdict__" : Str)) = false := by decide) (hg : Gl X "isinstance" := by rfl)
    (he : starEach [.Name x p1, .Tuple [.Name y1 py1, .Name y2 py2, .Name y3 py3] nt pt] X.env = (false, eval (.Name x p1) X.env) :: starEach [.Tuple [.Name y1 py1, .Name y2 py2, .Name y3 py3] nt pt] X.env := by rfl) (he2 : starEach [.Tuple [.Name y1 py1, .Name y2 py2, .Name y3 py3] nt pt] X.env = (false, eval (.Tuple [.Name y1 py1, .Name y2 py2, .Name y3 py3] nt pt) X.env) :: starEach [] X.env := by rfl)
    (he3 : starEach [.Name y1 py1, .Name y2 py2, .Name y3 py3] X.env = (false, eval (.Name y1 py1) X.env) :: starEach [.Name y2 py2, .Name y3 py3] X.env := by rfl) (he4 : starEach [.Name y2 py2, .Name y3 py3] X.env = (false, eval (.Name y2 py2) X.env) :: starEach [.Name y3 py3] X.env := by rfl) (he5 : starEach [.Name y3 py3] X.env = (false, eval (.Name y3 py3) X.env) :: starEach [] X.env := by rfl)
    (hpl : (backTo pos (starEach [.Tuple [.Name y1 py1, .Name y2 py2, .Name y3 py3] nt pt] X.env)).any (·.1) = false := by rfl) :
    PE (X.suite a ((a, oe) :: pn)) (.Call (.Name "isinstance" p) [.Name x p1, .Tuple [.Name y1 py1, .Name y2 py2, .Name y3 py3] nt pt] [] pos) (tD X.K Tb W (dIsiE i bs a cls d)) :=
  e_isiE3 hz hf B hbs (.own C1) (.own C2) (.own C3) (pe_glob (X := X.suite a ((a, oe) :: pn)) hgy1 gy1 rfl hdy1) (pe_glob (X := X.suite a ((a, oe) :: pn)) hgy2 gy2 rfl hdy2) (pe_glob (X := X.suite a ((a, oe) :: pn)) hgy3 gy3 rfl hdy3) ho hv hd hcd hg he he2 he3 he4 he5 hpl
end
end PD
set_option Elab.async false
set_option linter.all false
set_option maxRecDepth 100000
set_option maxHeartbeats 1000000
namespace PD
open PySem PySem.Spec PyProof.Rows L2
end PD
set_option Elab.async false
set_option linter.all false
set_option maxRecDepth 100000
set_option maxHeartbeats 1000000
namespace PD
open PySem PySem.Spec PySem.W PySem.Calls PyProof.Rows L2
def clsStm (s : Stmt) (j : Nat) : Stmt := match s with
  | .ClassDef _ _ _ body _ _ _ _ _ _ _ => body.getD j (.Pass ⟨0, 0, 0, 0⟩)
  | _ => .Pass ⟨0, 0, 0, 0⟩
theorem errX_mk {K : Frag} {mg : Str → Option Value} {C BC fI : Addr} {base fld text qual : Str} {j : Nat} {p1 p2 p3 p4 p5 p6 p7 p8 p9 p10 : Pos} {ar : Arguments} {sc : Scope} {bd : List Stmt}
    {oc doc pm cdv ct : Value} {od an : Option Addr} {osl : Array (Option Value)} (T : ErrF K C BC fI base fld) (gB : mg base = some (.ref BC))
    (ho : K.lookup fI = some ⟨oc, od, .func (fnOf "__init__" qual ar bd sc .none .none doc pm an cdv ct), osl⟩) (hcd : codeIn K cdv qual = true)
    (eb : bd = [.Expr (.Call (.Attribute (.Name base p1) "__init__" p2) [.Name "self" p3, .Constant (.str text) j p4] [] p5) p6, .Assign [.Attribute (.Name "self" p7) fld p8] (.Name fld p9) p10])
    (hbind : ∀ (s : Shared) (x v : Value), BindsTo s (fnOf "__init__" qual ar bd sc .none .none doc pm an cdv ct) ⟨[x, v], []⟩ [("self", x), (fld, v)])
    (hkind : ∀ (x v : Value), (([("self", x), (fld, v)] : List (Str × Value)).all fun y => sc.names.lookup y.1 == some .local || sc.names.lookup y.1 == some .cell) = true)
    (hco : sc.isCoroutine = false) (hgen : sc.isGenerator = false) (hk : sc.kind = .function)
    (lS : ∀ L, (envOfC qual sc L fI cdv).kindOf "self" = some .local) (lF : ∀ L, (envOfC qual sc L fI cdv).kindOf fld = some .local) (lB : ∀ L, (envOfC qual sc L fI cdv).kindOf base = some .globalImplicit)
    (mS : ∀ L (x v : Value), bindL (envOfC qual sc L fI cdv).kindOf [("self", x), (fld, v)] (fun _ => none) "self" = some x) (mF : ∀ L (x v : Value), bindL (envOfC qual sc L fI cdv).kindOf [("self", x), (fld, v)] (fun _ => none) fld = some v)
    (dF : (fld == ("__debug__" : Str)) = false) (dB : (base == ("__debug__" : Str)) = false)
    (hbase : ∀ env, attributeBase (.Name base p1) "__init__" env (eval (.Name base p1) env) = eval (.Name base p1) env) (hline : (p2.endLine == p5.line) = true)
    (hfew : ∀ env, ((backTo p5 (starEach [.Name "self" p3, .Constant (.str text) j p4] env)).all (fun x => !x.1) && (backToKw p5 (keywordEach [] env)).all (fun x => x.1.isSome)
      && decide (([.Name "self" p3, .Constant (.str text) j p4] : List Expr).length + ([] : List Keyword).length + (if ([] : List Keyword).isEmpty then 0 else 1) < 30)) = true)
    (he : ∀ env, starEach [.Name "self" p3, .Constant (.str text) j p4] env = (false, eval (.Name "self" p3) env) :: starEach [.Constant (.str text) j p4] env)
    (he2 : ∀ env, starEach [.Constant (.str text) j p4] env = (false, eval (.Constant (.str text) j p4) env) :: starEach [] env)
    (hpl : ∀ env, (backTo p5 (starEach [.Constant (.str text) j p4] env)).any (·.1) = false) (hint : ∀ L, interactive (envOfC qual sc L fI cdv) = false)
    (hsw : ∀ L, swapsWith (.Call (.Attribute (.Name base p1) "__init__" p2) [.Name "self" p3, .Constant (.str text) j p4] [] p5) none p6.line (envOfC qual sc L fI cdv) = pure false)
    (hsw2 : ∀ L, swapsWith (.Name fld p9) (some (.Attribute (.Name "self" p7) fld p8)) p10.line (envOfC qual sc L fI cdv) = pure false) : ErrX K mg C fld := by
  subst eb
  exact ⟨BC, fI, base, { toErrF := T, run := fun X G hl hx hnx hxm hr hq => fld_init T X G gB hl hx hnx hxm hr ho hcd (hbind _ _ _) (hkind _ _) hco hgen hk lS lF lB (fun L => mS L _ _) (fun L => mF L _ _) dF dB hbase hline hfew he he2 hpl hint hsw hsw2 fun h' tk dx t1 k1 k2 k3 k4 k5 => hq h' tk dx t1 ⟨k1, k2, k3, k4, k5⟩ }⟩
end PD
set_option Elab.async false
set_option linter.all false
set_option maxRecDepth 100000
set_option maxHeartbeats 1000000
namespace PD
open PySem PySem.Spec PyProof.Rows L2
end PD
set_option Elab.async false
set_option linter.all false
set_option maxRecDepth 100000
set_option maxHeartbeats 1000000
namespace PD
open PySem PySem.Spec PyProof.Rows L2
end PD
set_option Elab.async false
set_option linter.all false
set_option maxRecDepth 100000
set_option maxHeartbeats 1000000
namespace PD
open PySem PySem.Spec PyProof.Rows L2
end PD
set_option Elab.async false
set_option linter.all false
set_option maxRecDepth 100000
set_option maxHeartbeats 1000000
namespace PD
open PySem PySem.Spec PyProof.Rows L2
def tu (l : List Int) : PyData := .tuple (l.map .int)
def li (l : List Int) : PyData := .list (l.map .int)
def lt (ls : List (List Int)) : PyData := .list (ls.map tu)
def tt (ls : List (List Int)) : PyData := .tuple (ls.map tu)
@[simp] theorem tu_eq (l : List Int) : PyData.tuple (l.map PyData.int) = tu l := rfl
@[simp] theorem li_eq (l : List Int) : PyData.list (l.map PyData.int) = li l := rfl
@[simp] theorem lt_eq (ls : List (List Int)) : PyData.list (ls.map tu) = lt ls := rfl
@[simp] theorem tt_eq (ls : List (List Int)) : PyData.tuple (ls.map tu) = tt ls := rfl
@[simp] theorem tu_eq' {α : Type} (l : List α) (f : α → Int) : PyData.tuple (l.map fun x => PyData.int (f x)) = tu (l.map f) := by unfold tu; rw [List.map_map]; rfl
@[simp] theorem li_eq' {α : Type} (l : List α) (f : α → Int) : PyData.list (l.map fun x => PyData.int (f x)) = li (l.map f) := by unfold li; rw [List.map_map]; rfl
@[simp] theorem lt_eq' {α : Type} (l : List α) (f : α → List Int) : PyData.list (l.map fun x => tu (f x)) = lt (l.map f) := by unfold lt; rw [List.map_map]; rfl
@[simp] theorem tt_eq' {α : Type} (l : List α) (f : α → List Int) : PyData.tuple (l.map fun x => tu (f x)) = tt (l.map f) := by unfold tt; rw [List.map_map]; rfl
@[simp] theorem items_tu (l : List Int) : items (tu l) = .ok (l.map .int) := rfl
@[simp] theorem items_li (l : List Int) : items (li l) = .ok (l.map .int) := rfl
@[simp] theorem items_lt (l : List (List Int)) : items (lt l) = .ok (l.map tu) := rfl
@[simp] theorem items_tt (l : List (List Int)) : items (tt l) = .ok (l.map tu) := rfl
@[simp] theorem items_list (l : List PyData) : items (.list l) = .ok l := rfl
@[simp] theorem items_tuple (l : List PyData) : items (.tuple l) = .ok l := rfl
def dep (n : Nat) (d : PyData) : Prop := d.canLay0 = true ∧ d.depth ≤ n
theorem dep_int (i : Int) : dep 0 (.int i) := ⟨rfl, Nat.le_refl _⟩
theorem dep_bool (i : Bool) : dep 0 (.bool i) := ⟨rfl, Nat.le_refl _⟩
theorem dep_all {n : Nat} : ∀ {xs : List PyData}, (∀ x ∈ xs, dep n x) → PyData.canLayAll0 xs = true ∧ PyData.depthAll xs ≤ n
  | [], _ => ⟨rfl, Nat.zero_le _⟩
  | x :: xs, h => by
    obtain ⟨h1, h2⟩ := h x List.mem_cons_self
    obtain ⟨h3, h4⟩ := dep_all (xs := xs) fun y hy => h y (List.mem_cons_of_mem _ hy)
    refine ⟨?_, Nat.max_le.mpr ⟨h2, h4⟩⟩
    show (x.canLay0 && PyData.canLayAll0 xs) = true
    rw [h1, h3]; rfl
theorem dep_tuple {n : Nat} {xs : List PyData} (h : ∀ x ∈ xs, dep n x) : dep (n + 1) (.tuple xs) := ⟨(dep_all h).1, Nat.succ_le_succ (dep_all h).2⟩
theorem dep_list {n : Nat} {xs : List PyData} (h : ∀ x ∈ xs, dep n x) : dep (n + 1) (.list xs) := ⟨(dep_all h).1, Nat.succ_le_succ (dep_all h).2⟩
theorem dep_tu (l : List Int) : dep 1 (tu l) := dep_tuple fun x hx => by obtain ⟨i, _, rfl⟩ := List.mem_map.mp hx; exact dep_int i
theorem dep_li (l : List Int) : dep 1 (li l) := dep_list fun x hx => by obtain ⟨i, _, rfl⟩ := List.mem_map.mp hx; exact dep_int i
theorem dep_lt (l : List (List Int)) : dep 2 (lt l) := dep_list fun x hx => by obtain ⟨i, _, rfl⟩ := List.mem_map.mp hx; exact dep_tu i
theorem dep_tt (l : List (List Int)) : dep 2 (tt l) := dep_tuple fun x hx => by obtain ⟨i, _, rfl⟩ := List.mem_map.mp hx; exact dep_tu i
theorem shp_of {n : Nat} {d : PyData} (h : dep n d) (hn : n ≤ 64 := by decide) : shp d = true := by
  show (d.canLay0 && decide (d.depth ≤ 64)) = true
  rw [h.1, decide_eq_true (Nat.le_trans h.2 hn)]; rfl
@[simp] theorem shp_int (i : Int) : shp (.int i) = true := shp_of (dep_int i)
@[simp] theorem shp_bool (i : Bool) : shp (.bool i) = true := shp_of (dep_bool i)
@[simp] theorem shp_tu (l : List Int) : shp (tu l) = true := shp_of (dep_tu l)
@[simp] theorem shp_li (l : List Int) : shp (li l) = true := shp_of (dep_li l)
@[simp] theorem shp_lt (l : List (List Int)) : shp (lt l) = true := shp_of (dep_lt l)
@[simp] theorem shp_tt (l : List (List Int)) : shp (tt l) = true := shp_of (dep_tt l)
@[simp] theorem eqv_int (i j : Int) : PyData.eqv (.int i) (.int j) = (i == j) := by rw [PyData.eqv]
@[simp] theorem eqv_bool (i j : Bool) : PyData.eqv (.bool i) (.bool j) = (i == j) := by rw [PyData.eqv]
theorem eqvAll_map {α : Type} [DecidableEq α] {f : α → PyData} (h : ∀ a b, PyData.eqv (f a) (f b) = decide (a = b)) : ∀ xs ys : List α, PyData.eqvAll (xs.map f) (ys.map f) = decide (xs = ys)
  | [], [] => by rw [List.map_nil, PyData.eqvAll]; rfl
  | [], y :: ys => by rw [List.map_nil, List.map_cons, PyData.eqvAll]; rfl
  | x :: xs, [] => by rw [List.map_nil, List.map_cons, PyData.eqvAll]; rfl
  | x :: xs, y :: ys => by
    rw [List.map_cons, List.map_cons, PyData.eqvAll, h, eqvAll_map h xs ys]
    by_cases h1 : x = y <;> by_cases h2 : xs = ys <;> simp [h1, h2]
@[simp] theorem eqv_tu (a b : List Int) : PyData.eqv (tu a) (tu b) = decide (a = b) := by
  unfold tu; rw [PyData.eqv]
  exact eqvAll_map (fun i j => by rw [eqv_int]; rfl) a b
@[simp] theorem eqv_li (a b : List Int) : PyData.eqv (li a) (li b) = decide (a = b) := by
  unfold li; rw [PyData.eqv]
  exact eqvAll_map (fun i j => by rw [eqv_int]; rfl) a b
@[simp] theorem eqv_tt (a b : List (List Int)) : PyData.eqv (tt a) (tt b) = decide (a = b) := by
  unfold tt; rw [PyData.eqv]
  exact eqvAll_map eqv_tu a b
@[simp] theorem eqv_lt (a b : List (List Int)) : PyData.eqv (lt a) (lt b) = decide (a = b) := by
  unfold lt; rw [PyData.eqv]
  exact eqvAll_map eqv_tu a b
@[simp] theorem inD_ints (x : Int) (l : List Int) : inD (.int x) (l.map .int) = decide (x ∈ l) := by
  unfold inD
  induction l with
  | nil => rfl
  | cons y r ih =>
    rw [List.map_cons, List.any_cons, ih, eqv_int]
    by_cases h : y = x
    · subst h; simp
    · have h' : ¬ x = y := fun e => h e.symm
      simp [h, h']
@[simp] theorem inD_tus (x : List Int) (l : List (List Int)) : inD (tu x) (l.map tu) = decide (x ∈ l) := by
  unfold inD
  induction l with
  | nil => rfl
  | cons y r ih =>
    rw [List.map_cons, List.any_cons, ih, eqv_tu]
    by_cases h : y = x
    · subst h; simp
    · have h' : ¬ x = y := fun e => h e.symm
      simp [h, h']
@[simp] theorem oEq_int (i j : Int) : oEq (.int i) (.int j) = .ok (.bool (i == j)) := by simp [oEq]
@[simp] theorem oNe_int (i j : Int) : oNe (.int i) (.int j) = .ok (.bool (!(i == j))) := by simp [oNe]
@[simp] theorem oEq_bool (i j : Bool) : oEq (.bool i) (.bool j) = .ok (.bool (i == j)) := by simp [oEq]
@[simp] theorem oNe_bool (i j : Bool) : oNe (.bool i) (.bool j) = .ok (.bool (!(i == j))) := by simp [oNe]
@[simp] theorem oEq_tu (a b : List Int) : oEq (tu a) (tu b) = .ok (.bool (decide (a = b))) := by simp [oEq]
@[simp] theorem oNe_tu (a b : List Int) : oNe (tu a) (tu b) = .ok (.bool (!decide (a = b))) := by simp [oNe]
@[simp] theorem oEq_tt (a b : List (List Int)) : oEq (tt a) (tt b) = .ok (.bool (decide (a = b))) := by simp [oEq]
@[simp] theorem oNe_tt (a b : List (List Int)) : oNe (tt a) (tt b) = .ok (.bool (!decide (a = b))) := by simp [oNe]
@[simp] theorem oIn_tu (i : Int) (l : List Int) : oIn (.int i) (tu l) = .ok (.bool (decide (i ∈ l))) := by simp [oIn]
@[simp] theorem oNotIn_tu (i : Int) (l : List Int) : oNotIn (.int i) (tu l) = .ok (.bool (!decide (i ∈ l))) := by simp [oNotIn]
@[simp] theorem oIn_li (i : Int) (l : List Int) : oIn (.int i) (li l) = .ok (.bool (decide (i ∈ l))) := by simp [oIn]
@[simp] theorem oNotIn_li (i : Int) (l : List Int) : oNotIn (.int i) (li l) = .ok (.bool (!decide (i ∈ l))) := by simp [oNotIn]
@[simp] theorem oIn_tt (i : List Int) (l : List (List Int)) : oIn (tu i) (tt l) = .ok (.bool (decide (i ∈ l))) := by simp [oIn]
@[simp] theorem oIn_lt (i : List Int) (l : List (List Int)) : oIn (tu i) (lt l) = .ok (.bool (decide (i ∈ l))) := by simp [oIn]
@[simp] theorem oNotIn_lt (i : List Int) (l : List (List Int)) : oNotIn (tu i) (lt l) = .ok (.bool (!decide (i ∈ l))) := by simp [oNotIn]
@[simp] theorem oAdd_int (i j : Int) : oAdd (.int i) (.int j) = .ok (.int (i + j)) := rfl
@[simp] theorem oSub_int (i j : Int) : oSub (.int i) (.int j) = .ok (.int (i - j)) := rfl
@[simp] theorem oLt_int (i j : Int) : oLt (.int i) (.int j) = .ok (.bool (decide (i < j))) := rfl
@[simp] theorem oLe_int (i j : Int) : oLe (.int i) (.int j) = .ok (.bool (decide (i ≤ j))) := rfl
@[simp] theorem oGt_int (i j : Int) : oGt (.int i) (.int j) = .ok (.bool (decide (j < i))) := rfl
@[simp] theorem oGe_int (i j : Int) : oGe (.int i) (.int j) = .ok (.bool (decide (j ≤ i))) := rfl
theorem oMul_int {i j : Int} (h : CMul i j) : oMul (.int i) (.int j) = .ok (.int (i * j)) := if_pos h
theorem oMod_int {i j : Int} (h : j ≠ 0) : oMod (.int i) (.int j) = .ok (.int (i.fmod j)) := if_pos h
theorem oDiv_int {i j : Int} (h : CDivN i j) : oDiv (.int i) (.int j) = .ok (.int (i.fdiv j)) := if_pos h
theorem oAdd_tu {a b : List Int} (h : a.length + b.length ≤ 100000) : oAdd (tu a) (tu b) = .ok (tu (a ++ b)) := by
  have e : oAdd (.tuple (a.map PyData.int)) (.tuple (b.map PyData.int)) = .ok (.tuple (a.map PyData.int ++ b.map PyData.int)) := if_pos (by rw [List.length_map, List.length_map, sizeLine_eq]; omega)
  rw [← List.map_append] at e
  exact e
theorem oAdd_li {a b : List Int} (h : a.length + b.length ≤ 100000) : oAdd (li a) (li b) = .ok (li (a ++ b)) := by
  have e : oAdd (.list (a.map PyData.int)) (.list (b.map PyData.int)) = .ok (.list (a.map PyData.int ++ b.map PyData.int)) := if_pos (by rw [List.length_map, List.length_map, sizeLine_eq]; omega)
  rw [← List.map_append] at e
  exact e
theorem oAdd_lt {a b : List (List Int)} (h : a.length + b.length ≤ 100000) : oAdd (lt a) (lt b) = .ok (lt (a ++ b)) := by
  have e : oAdd (.list (a.map tu)) (.list (b.map tu)) = .ok (.list (a.map tu ++ b.map tu)) := if_pos (by rw [List.length_map, List.length_map, sizeLine_eq]; omega)
  rw [← List.map_append] at e
  exact e
theorem atI_get {α β : Type} (f : α → β) {xs : List α} {i : Int} (h0 : 0 ≤ i) {x : α} (h : xs[i.toNat]? = some x) : atI (xs.map f) i = some (f x) := by
  have hl := (List.getElem?_eq_some_iff.mp h).1
  unfold atI ixN
  rw [if_pos h0, if_pos (by rw [List.length_map]; omega)]
  show (xs.map f)[i.toNat]? = _
  rw [List.getElem?_map, h]; rfl
theorem oIx_li {l : List Int} {i x : Int} (h0 : 0 ≤ i) (h : l[i.toNat]? = some x) : oIx (li l) (.int i) = .ok (.int x) := by
  show (match atI (l.map PyData.int) i with | some d => R.ok d | none => .bad) = _
  rw [atI_get _ h0 h]
theorem oIx_tu {l : List Int} {i x : Int} (h0 : 0 ≤ i) (h : l[i.toNat]? = some x) : oIx (tu l) (.int i) = .ok (.int x) := by
  show (match atI (l.map PyData.int) i with | some d => R.ok d | none => .bad) = _
  rw [atI_get _ h0 h]
theorem oIx_lt {l : List (List Int)} {i : Int} {x : List Int} (h0 : 0 ≤ i) (h : l[i.toNat]? = some x) : oIx (lt l) (.int i) = .ok (tu x) := by
  show (match atI (l.map tu) i with | some d => R.ok d | none => .bad) = _
  rw [atI_get _ h0 h]
@[simp] theorem oIx_pair0 (a b : PyData) : oIx (.tuple [a, b]) (.int 0) = .ok a := rfl
@[simp] theorem oIx_pair1 (a b : PyData) : oIx (.tuple [a, b]) (.int 1) = .ok b := rfl
@[simp] theorem bLen_tu (l : List Int) : bLen [tu l] = .ok (.int l.length) := by simp [bLen]
@[simp] theorem bLen_li (l : List Int) : bLen [li l] = .ok (.int l.length) := by simp [bLen]
@[simp] theorem bLen_lt (l : List (List Int)) : bLen [lt l] = .ok (.int l.length) := by simp [bLen]
@[simp] theorem bLen_tt (l : List (List Int)) : bLen [tt l] = .ok (.int l.length) := by simp [bLen]
@[simp] theorem bInt_int (i : Int) : bInt [.int i] = .ok (.int i) := rfl
@[simp] theorem bTuple_li (l : List Int) : bTuple [li l] = .ok (tu l) := rfl
@[simp] theorem bTuple_tu (l : List Int) : bTuple [tu l] = .ok (tu l) := rfl
@[simp] theorem bTuple_lt (l : List (List Int)) : bTuple [lt l] = .ok (tt l) := rfl
@[simp] theorem bTuple_tt (l : List (List Int)) : bTuple [tt l] = .ok (tt l) := rfl
@[simp] theorem bList_li (l : List Int) : bList [li l] = .ok (li l) := rfl
@[simp] theorem bList_tu (l : List Int) : bList [tu l] = .ok (li l) := rfl
@[simp] theorem bList_lt (l : List (List Int)) : bList [lt l] = .ok (lt l) := rfl
@[simp] theorem bList_tt (l : List (List Int)) : bList [tt l] = .ok (lt l) := rfl
@[simp] theorem asInts_map : ∀ l : List Int, asInts (l.map .int) = some l
  | [] => rfl
  | x :: r => by rw [List.map_cons, asInts, asInts_map r]; rfl
@[simp] theorem asBools_map : ∀ l : List Bool, asBools (l.map .bool) = some l
  | [] => rfl
  | x :: r => by rw [List.map_cons, asBools, asBools_map r]; rfl
theorem asBools_map' {α : Type} (f : α → Bool) (l : List α) : asBools (l.map fun x => PyData.bool (f x)) = some (l.map f) := by
  have := asBools_map (l.map f)
  rw [List.map_map] at this
  exact this
@[simp] theorem bAny_map {α : Type} (f : α → Bool) (l : List α) : bAny [.list (l.map fun x => PyData.bool (f x))] = .ok (.bool (l.any f)) := by
  show ofO (asBools (l.map fun x => PyData.bool (f x))) (fun ns => R.ok (PyData.bool (ns.any id))) = _
  rw [asBools_map']
  show R.ok (PyData.bool ((l.map f).any id)) = _
  rw [List.any_map]; rfl
@[simp] theorem bAll_map {α : Type} (f : α → Bool) (l : List α) : bAll [.list (l.map fun x => PyData.bool (f x))] = .ok (.bool (l.all f)) := by
  show ofO (asBools (l.map fun x => PyData.bool (f x))) (fun ns => R.ok (PyData.bool (ns.all id))) = _
  rw [asBools_map']
  show R.ok (PyData.bool ((l.map f).all id)) = _
  rw [List.all_map]; rfl
theorem bMax_li {l : List Int} (h : l ≠ []) : bMax [li l] = .ok (.int (maxI l)) := by
  show ofO (asInts (l.map PyData.int)) (fun ns => if 0 < ns.length then R.ok (PyData.int (maxI ns)) else .bad) = _
  rw [asInts_map]
  exact if_pos (List.length_pos_iff.mpr h)
@[simp] theorem bSum_li (l : List Int) : bSum [li l] = .ok (.int l.sum) := by
  show ofO (asInts (l.map PyData.int)) (fun ns => R.ok (PyData.int ns.sum)) = _
  rw [asInts_map]; rfl
theorem isi_int (i : Int) : oIsi "int" (.int i) = .ok (.bool true) := by
  have : isiD "int" (.int i) = some true := by show kitB "int" "int" = _; decide +kernel
  unfold oIsi; rw [this]
theorem isi_bool (i : Int) : oIsi "bool" (.int i) = .ok (.bool false) := by
  have : isiD "bool" (.int i) = some false := by show kitB "int" "bool" = _; decide +kernel
  unfold oIsi; rw [this]
theorem isi_tuple (l : List PyData) : oIsi "tuple" (.tuple l) = .ok (.bool true) := by
  have : isiD "tuple" (.tuple l) = some true := by show kitB "tuple" "tuple" = _; decide +kernel
  unfold oIsi; rw [this]
theorem isi_tu (l : List Int) : oIsi "tuple" (tu l) = .ok (.bool true) := isi_tuple _
theorem isi_tt (l : List (List Int)) : oIsi "tuple" (tt l) = .ok (.bool true) := isi_tuple _
end PD
set_option Elab.async false
set_option linter.all false
set_option maxRecDepth 100000
set_option maxHeartbeats 1000000
namespace PD
open PySem PySem.Spec PyProof.Rows L2
def varR : Option (Option Sl) → R PyData
  | some (some (.d x)) => .ok x
  | _ => .bad
@[simp] theorem varR_d (x : PyData) : varR (some (some (.d x))) = .ok x := rfl
@[simp] theorem ev_var (i : Nat) (ρ : Rho) : dVar i ρ = varR ρ[i]? := rfl
@[simp] theorem ev_c (x : PyData) (ρ : Rho) : dC x ρ = .ok x := rfl
@[simp] theorem ev_one (u : PyData → R PyData) (f : Dn) (ρ : Rho) : dOne u f ρ = (f ρ >>= u) := rfl
@[simp] theorem ev_two (u : PyData → PyData → R PyData) (f g : Dn) (ρ : Rho) : dTwo u f g ρ = (f ρ >>= fun a => g ρ >>= fun b => u a b) := rfl
@[simp] theorem ev_nil (ρ : Rho) : dNil ρ = .ok [] := rfl
@[simp] theorem ev_cons (f : Dn) (g : DnL) (ρ : Rho) : dCons f g ρ = (f ρ >>= fun a => g ρ >>= fun b => .ok (a :: b)) := rfl
@[simp] theorem ev_arg (m : List PyData → R PyData) (g : DnL) (ρ : Rho) : dArg m g ρ = (g ρ >>= m) := rfl
def tupR (xs : List PyData) : R PyData := if xs.length ≤ sizeLine then .ok (.tuple xs) else .bad
def lstR (xs : List PyData) : R PyData := if xs.length ≤ sizeLine then .ok (.list xs) else .bad
theorem tupR_ok {xs : List PyData} (h : xs.length ≤ 100000) : tupR xs = .ok (.tuple xs) := if_pos (by rw [sizeLine_eq]; omega)
theorem lstR_ok {xs : List PyData} (h : xs.length ≤ 100000) : lstR xs = .ok (.list xs) := if_pos (by rw [sizeLine_eq]; omega)
@[simp] theorem tupR_0 : tupR [] = .ok (.tuple []) := tupR_ok (by decide)
@[simp] theorem tupR_1 (a : PyData) : tupR [a] = .ok (.tuple [a]) := tupR_ok (by show 1 ≤ 100000; decide)
@[simp] theorem tupR_2 (a b : PyData) : tupR [a, b] = .ok (.tuple [a, b]) := tupR_ok (by show 2 ≤ 100000; decide)
@[simp] theorem tupR_3 (a b c : PyData) : tupR [a, b, c] = .ok (.tuple [a, b, c]) := tupR_ok (by show 3 ≤ 100000; decide)
@[simp] theorem tupR_4 (a b c d : PyData) : tupR [a, b, c, d] = .ok (.tuple [a, b, c, d]) := tupR_ok (by show 4 ≤ 100000; decide)
@[simp] theorem tupR_5 (a b c d e : PyData) : tupR [a, b, c, d, e] = .ok (.tuple [a, b, c, d, e]) := tupR_ok (by show 5 ≤ 100000; decide)
@[simp] theorem tupR_6 (a b c d e f : PyData) : tupR [a, b, c, d, e, f] = .ok (.tuple [a, b, c, d, e, f]) := tupR_ok (by show 6 ≤ 100000; decide)
@[simp] theorem tupR_7 (a b c d e f g : PyData) : tupR [a, b, c, d, e, f, g] = .ok (.tuple [a, b, c, d, e, f, g]) := tupR_ok (by show 7 ≤ 100000; decide)
@[simp] theorem tupR_8 (a b c d e f g h : PyData) : tupR [a, b, c, d, e, f, g, h] = .ok (.tuple [a, b, c, d, e, f, g, h]) := tupR_ok (by show 8 ≤ 100000; decide)
@[simp] theorem lstR_0 : lstR [] = .ok (.list []) := lstR_ok (by decide)
@[simp] theorem lstR_1 (a : PyData) : lstR [a] = .ok (.list [a]) := lstR_ok (by show 1 ≤ 100000; decide)
@[simp] theorem lstR_2 (a b : PyData) : lstR [a, b] = .ok (.list [a, b]) := lstR_ok (by show 2 ≤ 100000; decide)
@[simp] theorem lstR_3 (a b c : PyData) : lstR [a, b, c] = .ok (.list [a, b, c]) := lstR_ok (by show 3 ≤ 100000; decide)
@[simp] theorem ev_tup (g : DnL) (ρ : Rho) : dTup g ρ = (g ρ >>= tupR) := rfl
@[simp] theorem ev_lst (g : DnL) (ρ : Rho) : dLst g ρ = (g ρ >>= lstR) := rfl
@[simp] theorem tu_0 : PyData.tuple [] = tu [] := rfl
@[simp] theorem tu_1 (a : Int) : PyData.tuple [.int a] = tu [a] := rfl
@[simp] theorem tu_6 (a b c d e f : Int) : PyData.tuple [.int a, .int b, .int c, .int d, .int e, .int f] = tu [a, b, c, d, e, f] := rfl
@[simp] theorem tu_8 (a b c d e f g h : Int) : PyData.tuple [.int a, .int b, .int c, .int d, .int e, .int f, .int g, .int h] = tu [a, b, c, d, e, f, g, h] := rfl
@[simp] theorem li_3 (a b c : Int) : PyData.list [.int a, .int b, .int c] = li [a, b, c] := rfl
@[simp] theorem lt_1 (a : List Int) : PyData.list [tu a] = lt [a] := rfl
@[simp] theorem asB_bool (b : Bool) : asB (.bool b) = .ok b := rfl
@[simp] theorem asI_int (b : Int) : asI (.int b) = .ok b := rfl
@[simp] theorem ev_asB (f : Dn) (ρ : Rho) : dAsB f ρ = (f ρ >>= asB) := rfl
@[simp] theorem ev_and (f g : DnB) (ρ : Rho) : dAnd f g ρ = (f ρ >>= fun b => if b = true then g ρ else .ok false) := rfl
@[simp] theorem ev_or (f g : DnB) (ρ : Rho) : dOr f g ρ = (f ρ >>= fun b => if b = true then .ok true else g ρ) := rfl
@[simp] theorem ev_not (f : DnB) (ρ : Rho) : dNot f ρ = (f ρ >>= fun b => .ok (!b)) := rfl
@[simp] theorem ev_andV (f g : Dn) (ρ : Rho) : dAndV f g ρ = (f ρ >>= fun a => asB a >>= fun b => if b = true then g ρ else .ok (.bool false)) := rfl
@[simp] theorem ev_orV (f g : Dn) (ρ : Rho) : dOrV f g ρ = (f ρ >>= fun a => asB a >>= fun b => if b = true then .ok (.bool true) else g ρ) := rfl
@[simp] theorem ev_notV (f : Dn) (ρ : Rho) : dNotV f ρ = (f ρ >>= fun a => asB a >>= fun b => .ok (.bool (!b))) := rfl
@[simp] theorem ev_if (c : DnB) (f g : Dn) (ρ : Rho) : dIf c f g ρ = (c ρ >>= fun b => if b = true then f ρ else g ρ) := rfl
@[simp] theorem ev_cut (f : Dn) (l h : DnO) (ρ : Rho) : dCut f l h ρ = (f ρ >>= fun a => l ρ >>= fun l => h ρ >>= fun h => oCut a l h) := rfl
@[simp] theorem ev_noP (ρ : Rho) : dNoP ρ = .ok none := rfl
@[simp] theorem ev_part (f : Dn) (ρ : Rho) : dPart f ρ = (f ρ >>= fun a => asI a >>= fun i => .ok (some i)) := rfl
@[simp] theorem ev_yes (ρ : Rho) : dYes ρ = .ok true := rfl
@[simp] theorem ev_items (f : Dn) (ρ : Rho) : dItems f ρ = (f ρ >>= items) := rfl
@[simp] theorem ev_rng1 (g : DnL) (ρ : Rho) : dRng1 g ρ = (g ρ >>= rngA1) := rfl
@[simp] theorem ev_rng2 (g : DnL) (ρ : Rho) : dRng2 g ρ = (g ρ >>= rngA2) := rfl
@[simp] theorem ev_thawB (f : DnB) (ρ : Rho) : dThawB f ρ = nx (f (thaw ρ)) .ok := rfl
@[simp] theorem ev_thaw (f : Dn) (ρ : Rho) : dThaw f ρ = nx (f (thaw ρ)) fun d => if flat d = true then .ok d else .bad := rfl
def rangeI (lo hi : Int) : List Int := (List.range (hi - lo).toNat).map fun i => lo + (i : Nat)
theorem rngD_eq (lo : Int) (n : Nat) : rngD lo n = ((List.range n).map fun i => lo + (i : Nat)).map PyData.int := by unfold rngD; rw [List.map_map]; rfl
theorem rngA1_ok {n : Int} (h : n ≤ 100000) (h0 : -1000 ≤ n) : rngA1 [.int n] = .ok ((rangeI 0 n).map PyData.int) := by
  have e : rngA1 [.int n] = .ok (rngD 0 n.toNat) := if_pos ⟨by omega, by rw [sizeLine_eq]; omega⟩
  rw [e, rngD_eq]
  unfold rangeI
  rw [Int.sub_zero]
theorem mem_rangeI {lo hi x : Int} : x ∈ rangeI lo hi ↔ lo ≤ x ∧ x < hi := by
  unfold rangeI
  rw [List.mem_map]
  constructor
  · rintro ⟨i, hi', rfl⟩
    have := List.mem_range.mp hi'
    omega
  · intro ⟨h1, h2⟩
    exact ⟨(x - lo).toNat, List.mem_range.mpr (by omega), by omega⟩
theorem rangeI_len (lo hi : Int) : (rangeI lo hi).length = (hi - lo).toNat := by unfold rangeI; rw [List.length_map, List.length_range]
theorem rangeI_asc (lo hi : Int) : (rangeI lo hi).Pairwise (· < ·) := by
  unfold rangeI
  rw [List.pairwise_map]
  exact List.Pairwise.imp (fun h => by omega) List.pairwise_lt_range
theorem rangeI_get {lo hi : Int} {j : Nat} (h : j < (hi - lo).toNat) : (rangeI lo hi)[j]? = some (lo + (j : Nat)) := by
  unfold rangeI
  rw [List.getElem?_map, List.getElem?_range h]; rfl
def lcR {α β : Type} (p : α → R Bool) (f : α → R β) : List α → R (List β)
  | [] => .ok []
  | x :: xs => nx (p x) fun b => if b = true then nx (f x) fun y => nx (lcR p f xs) fun ys => .ok (y :: ys) else lcR p f xs
theorem lcGo_nm (i : Nat) (ft : DnB) (fe : Dn) (ρ : Rho) : ∀ ds : List PyData, lcGo (.nm i) ft fe ρ ds = lcR (fun d => ft (ρ.set i (some (.d d)))) (fun d => fe (ρ.set i (some (.d d)))) ds
  | [] => rfl
  | d :: ds => by
    show nx _ _ = nx _ _
    simp only [lcGo_nm i ft fe ρ ds]
@[simp] theorem lcR_map {α β γ : Type} (p : α → R Bool) (f : α → R β) (g : γ → α) : ∀ xs : List γ, lcR p f (xs.map g) = lcR (fun x => p (g x)) (fun x => f (g x)) xs
  | [] => rfl
  | x :: xs => by
    show nx _ _ = nx _ _
    simp only [lcR_map p f g xs]
@[simp] theorem lcR_ok {α β : Type} (p : α → Bool) (f : α → β) : ∀ xs : List α, lcR (fun x => .ok (p x)) (fun x => .ok (f x)) xs = .ok ((xs.filter p).map f)
  | [] => rfl
  | x :: xs => by
    show (if p x = true then nx (lcR _ _ xs) _ else lcR _ _ xs) = _
    rw [lcR_ok p f xs]
    cases h : p x <;> simp [h]
@[simp high] theorem lcR_all {α β : Type} (f : α → β) (xs : List α) : lcR (fun _ => .ok true) (fun x => .ok (f x)) xs = .ok (xs.map f) := by
  rw [lcR_ok (fun _ => true) f xs, List.filter_eq_self.mpr (fun _ _ => rfl)]
theorem lcR_of {α β : Type} {p : α → R Bool} {f : α → R β} {q : α → Bool} {g : α → β} : ∀ {xs : List α}, (∀ x ∈ xs, p x = .ok (q x) ∧ (q x = true → f x = .ok (g x))) → lcR p f xs = .ok ((xs.filter q).map g)
  | [], _ => rfl
  | x :: xs, h => by
    obtain ⟨h1, h2⟩ := h x List.mem_cons_self
    show nx (p x) _ = _
    rw [h1, lcR_of (xs := xs) fun y hy => h y (List.mem_cons_of_mem _ hy)]
    cases e : q x with
    | false => simp [e]
    | true => rw [h2 e]; simp [e]
@[simp] theorem ev_lc (fi : DnL) (i : Nat) (ft : DnB) (fe : Dn) (vs : List Nat) (ρ : Rho) : dLc fi (.nm i) ft fe vs ρ = (fi ρ >>= fun ds => nx (lcR (fun d => ft ((wipeR ρ vs).set i (some (.d d)))) (fun d => fe ((wipeR ρ vs).set i (some (.d d)))) ds) fun ys => .ok (.list ys)) := by
  show (fi ρ >>= fun ds => nx (lcGo (.nm i) ft fe (wipeR ρ vs) ds) fun ys => R.ok (PyData.list ys)) = _
  simp only [lcGo_nm]
@[simp] theorem wipe_0 (ρ : Rho) : wipeR ρ [] = ρ := rfl
@[simp] theorem wipe_1 (ρ : Rho) (v : Nat) (vs : List Nat) : wipeR ρ (v :: vs) = (wipeR ρ vs).set v none := rfl
def anyR {α : Type} (stop : Bool) (f : α → R PyData) : List α → R Bool
  | [] => .ok (!stop)
  | x :: xs => nx (f x) fun y => match y with
    | .bool c => if c = stop then .ok stop else anyR stop f xs
    | _ => .bad
theorem anyGo_nm (stop : Bool) (i : Nat) (fe : Dn) (ρ : Rho) : ∀ ds : List PyData, anyGo stop (.nm i) dYes fe ρ ds = anyR stop (fun d => fe (ρ.set i (some (.d d)))) ds
  | [] => rfl
  | d :: ds => by
    show nx (fe (ρ.set i (some (.d d)))) _ = nx (fe (ρ.set i (some (.d d)))) _
    cases fe (ρ.set i (some (.d d))) with
    | exc e => rfl
    | bad => rfl
    | ok y =>
      show (match y with | .bool c => if c = stop then R.ok stop else anyGo stop (.nm i) dYes fe ρ ds | _ => .bad) = _
      rw [anyGo_nm stop i fe ρ ds]
      cases y <;> rfl
@[simp] theorem ev_anyG (stop : Bool) (fi : DnL) (i : Nat) (fe : Dn) (vs : List Nat) (ρ : Rho) : dAnyG stop fi (.nm i) dYes fe vs ρ = (fi ρ >>= fun ds => nx (anyR stop (fun d => fe ((wipeR ρ vs).set i (some (.d d)))) ds) fun b => .ok (.bool b)) := by
  show (fi ρ >>= fun ds => nx (anyGo stop (.nm i) dYes fe (wipeR ρ vs) ds) fun b => R.ok (PyData.bool b)) = _
  simp only [anyGo_nm]
@[simp] theorem ite_ok {α : Type} (c : Prop) [Decidable c] (a b : α) : (if c then R.ok a else R.ok b) = R.ok (if c then a else b) := by split <;> rfl
@[simp] theorem ite_int (c : Prop) [Decidable c] (a b : Int) : (if c then PyData.int a else PyData.int b) = PyData.int (if c then a else b) := by split <;> rfl
@[simp] theorem ite_bool (c : Prop) [Decidable c] (a b : Bool) : (if c then PyData.bool a else PyData.bool b) = PyData.bool (if c then a else b) := by split <;> rfl
@[simp] theorem ite_tu (c : Prop) [Decidable c] (a b : List Int) : (if c then tu a else tu b) = tu (if c then a else b) := by split <;> rfl
def seqO (o : Out) (h : Sn) : Out := match o with
  | .nx ρ' => h ρ'
  | o => o
@[simp] theorem seqO_nx (ρ : Rho) (h : Sn) : seqO (.nx ρ) h = h ρ := rfl
@[simp] theorem seqO_rt (d : PyData) (h : Sn) : seqO (.rt d) h = .rt d := rfl
@[simp] theorem seqO_ct (ρ : Rho) (h : Sn) : seqO (.ct ρ) h = .ct ρ := rfl
@[simp] theorem seqO_bk (ρ : Rho) (h : Sn) : seqO (.bk ρ) h = .bk ρ := rfl
@[simp] theorem ev_seq (g h : Sn) (ρ : Rho) : gSeq g h ρ = seqO (g ρ) h := rfl
@[simp] theorem ev_skip (ρ : Rho) : gSkip ρ = .nx ρ := rfl
@[simp] theorem oR_ok {α : Type} (a : α) (ρ : Rho) (k : α → Out) : oR (.ok a) ρ k = k a := rfl
@[simp] theorem oO_some (ρ : Rho) : oO (some ρ) = .nx ρ := rfl
@[simp] theorem set_nm (i : Nat) (d : PyData) (ρ : Rho) : Tg.set (.nm i) d ρ = some (ρ.set i (some (.d d))) := by rw [Tg.set]
@[simp] theorem set_tp2 (i j : Nat) (a b : PyData) (ρ : Rho) : Tg.set (.tp [.nm i, .nm j]) (.tuple [a, b]) ρ = some ((ρ.set i (some (.d a))).set j (some (.d b))) := by
  simp [Tg.set, Tg.sets]
@[simp] theorem ev_set (f : Dn) (t : Tg) (ρ : Rho) : gSet f t ρ = oR (f ρ) ρ fun d => oO (t.set d ρ) := rfl
@[simp] theorem ev_ret (f : Dn) (ρ : Rho) : gRet f ρ = oR (f ρ) ρ .rt := rfl
@[simp] theorem ev_expr (f : Dn) (ρ : Rho) : gExpr f ρ = oR (f ρ) ρ fun _ => .nx ρ := rfl
@[simp] theorem ev_ifs (c : DnB) (g h : Sn) (ρ : Rho) : gIf c g h ρ = oR (c ρ) ρ fun b => if b = true then g ρ else h ρ := rfl
@[simp] theorem ev_for (fi : DnL) (t : Tg) (g : Sn) (ρ : Rho) : gFor fi t g ρ = oR (fi ρ) ρ fun ds => forGo t g ds ρ := rfl
def frzO (o : Option Rho) (g : Sn) : Out := match o with
  | some ρ' => g ρ'
  | none => .bad
@[simp] theorem frzO_some (ρ : Rho) (g : Sn) : frzO (some ρ) g = g ρ := rfl
@[simp] theorem ev_frz (i : Nat) (g : Sn) (ρ : Rho) : gFrz i g ρ = frzO (frz i ρ) g := rfl
def frzS (o : Option (Option Sl)) (ρ : Rho) (i : Nat) : Option Rho := match o with
  | some (some (.own ds)) => some (ρ.set i (some (.d (.list ds))))
  | _ => none
@[simp] theorem frzS_own (ds : List PyData) (ρ : Rho) (i : Nat) : frzS (some (some (.own ds))) ρ i = some (ρ.set i (some (.d (.list ds)))) := rfl
@[simp] theorem ev_frzs (i : Nat) (ρ : Rho) : frz i ρ = frzS ρ[i]? ρ i := rfl
def ownR (d : PyData) (ρ : Rho) (i : Nat) : Out := match d with
  | .list ds => .nx (ρ.set i (some (.own ds)))
  | _ => .bad
@[simp] theorem ownR_list (ds : List PyData) (ρ : Rho) (i : Nat) : ownR (.list ds) ρ i = .nx (ρ.set i (some (.own ds))) := rfl
@[simp] theorem ownR_li (l : List Int) (ρ : Rho) (i : Nat) : ownR (li l) ρ i = .nx (ρ.set i (some (.own (l.map .int)))) := rfl
@[simp] theorem ownR_lt (l : List (List Int)) (ρ : Rho) (i : Nat) : ownR (lt l) ρ i = .nx (ρ.set i (some (.own (l.map tu)))) := rfl
@[simp] theorem ev_own (f : Dn) (i : Nat) (ρ : Rho) : gOwn f i ρ = oR (f ρ) ρ fun d => ownR d ρ i := rfl
def ownA (o : Option (Option Sl)) (k : List PyData → Out) : Out := match o with
  | some (some (.own ds)) => k ds
  | _ => .bad
@[simp] theorem ownA_own (ds : List PyData) (k : List PyData → Out) : ownA (some (some (.own ds))) k = k ds := rfl
@[simp] theorem ev_app (i : Nat) (f : Dn) (ρ : Rho) : gApp i f ρ = ownA ρ[i]? fun ds => oR (f ρ) ρ fun d => if ds.length < sizeLine then .nx (ρ.set i (some (.own (ds ++ [d])))) else .bad := rfl
def thaw1 : Option Sl → Option Sl
  | some (.own ds) => some (.d (.list ds))
  | some (.dct ks) => some (.d (.dict (ks.map fun k => (.tuple (k.map .int), .bool true))))
  | some (.dk _) => none
  | s => s
@[simp] theorem thaw1_dct (ks : List (List Int)) : thaw1 (some (.dct ks)) = some (.d (.dict (ks.map fun k => (.tuple (k.map .int), .bool true)))) := rfl
@[simp] theorem thaw1_own (ds : List PyData) : thaw1 (some (.own ds)) = some (.d (.list ds)) := rfl
@[simp] theorem thaw1_d (d : PyData) : thaw1 (some (.d d)) = some (.d d) := rfl
@[simp] theorem thaw1_none : thaw1 none = none := rfl
@[simp] theorem thaw_nil : thaw [] = [] := rfl
@[simp] theorem thaw_cons (s : Option Sl) (r : Rho) : thaw (s :: r) = thaw1 s :: thaw r := rfl
@[simp] theorem endR_rt (d : PyData) : endR (.rt d) = .ok d := rfl
theorem line_lt {n : Nat} (h : n < 100000) : n < sizeLine := by rw [sizeLine_eq]; omega
/-- a for loop: S holds of what is left to walk -/
theorem forGo_inv {α : Type} {enc : α → PyData} {i : Nat} {g : Sn} (S : List α → Rho → Prop) (hs : ∀ x xs ρ, S (x :: xs) ρ → ∃ ρ', g (ρ.set i (some (.d (enc x)))) = .nx ρ' ∧ S xs ρ') :
    ∀ (xs : List α) (ρ : Rho), S xs ρ → ∃ ρ', forGo (.nm i) g (xs.map enc) ρ = .nx ρ' ∧ S [] ρ'
  | [], ρ, h => ⟨ρ, rfl, h⟩
  | x :: xs, ρ, h => by
    obtain ⟨ρ1, e1, h1⟩ := hs x xs ρ h
    obtain ⟨ρ2, e2, h2⟩ := forGo_inv S hs xs ρ1 h1
    refine ⟨ρ2, ?_, h2⟩
    rw [List.map_cons]
    unfold forGo
    rw [set_nm]
    show (match g (ρ.set i (some (.d (enc x)))) with | .nx ρ => forGo (.nm i) g (xs.map enc) ρ | .ct ρ => forGo (.nm i) g (xs.map enc) ρ | .bk ρ => .nx ρ | o => o) = _
    rw [e1]
    exact e2
@[simp] theorem bAbs_int (i : Int) : bAbs [.int i] = .ok (.int (if i < 0 then -i else i)) := rfl
@[simp] theorem bMin2_int (i j : Int) : bMin2 [.int i, .int j] = .ok (.int (if j < i then j else i)) := rfl
@[simp] theorem oPow_10_18 : oPow (.int 10) (.int 18) = .ok (.int 1000000000000000000) := by
  have h : CPow 10 18 := ⟨by decide, by decide, by decide⟩
  show (if CPow 10 18 then R.ok (PyData.int (10 ^ (18 : Int).toNat)) else .bad) = _
  rw [if_pos h]; rfl
theorem oMul_r {i j : Int} (h1 : -18446744073709551616 < j) (h2 : j < 18446744073709551616) : oMul (.int i) (.int j) = .ok (.int (i * j)) := oMul_int (.inr ⟨by omega, by omega⟩)
theorem oMul_l {i j : Int} (h1 : -18446744073709551616 < i) (h2 : i < 18446744073709551616) : oMul (.int i) (.int j) = .ok (.int (i * j)) := oMul_int (.inl ⟨by omega, by omega⟩)
theorem oDiv_lit {i j : Int} (h1 : j ≠ 0) (h2 : j.natAbs < 1073741824) : oDiv (.int i) (.int j) = .ok (.int (i.fdiv j)) := oDiv_int ⟨h1, h2⟩
theorem fmod_lo (a : Int) {b : Int} (h : 0 < b) : 0 ≤ a.fmod b := Int.fmod_nonneg_of_pos a h
theorem fmod_hi (a : Int) {b : Int} (h : 0 < b) : a.fmod b < b := Int.fmod_lt_of_pos a h
def unInt : PyData → Int
  | .int i => i
  | _ => 0
def unTu : PyData → List Int
  | .tuple l => l.map unInt
  | _ => []
theorem unTu_tu (l : List Int) : unTu (tu l) = l := by
  show (l.map PyData.int).map unInt = l
  rw [List.map_map]
  exact List.map_id'' (fun _ => rfl) l
theorem alike_ints : ∀ a b : List Int, PySem.W.alikeAll (a.map PyData.int) (b.map PyData.int) = true
  | [], _ => by rw [List.map_nil, PySem.W.alikeAll]
  | _ :: _, [] => by rw [List.map_nil, List.map_cons, PySem.W.alikeAll]
  | x :: a, y :: b => by
    rw [List.map_cons, List.map_cons, PySem.W.alikeAll, alike_ints a b, PySem.W.alike]; rfl
theorem okSort_tus (ls : List (List Int)) : okSort (ls.map tu) = true := by
  unfold okSort
  have h1 : allAlike (ls.map tu) = true := by
    unfold allAlike
    rw [List.all_eq_true]
    intro d hd
    rw [List.all_eq_true]
    intro e he
    obtain ⟨a, _, rfl⟩ := List.mem_map.mp hd
    obtain ⟨b, _, rfl⟩ := List.mem_map.mp he
    show PySem.W.alike (.tuple _) (.tuple _) = true
    rw [PySem.W.alike]
    exact alike_ints a b
  have h2 : allTup (ls.map tu) = true := by
    unfold allTup
    rw [List.all_eq_true]
    intro d hd
    obtain ⟨a, _, rfl⟩ := List.mem_map.mp hd
    rfl
  have h3 : ((ls.map tu).all fun d => decide (d.depth ≤ 60)) = true := by
    rw [List.all_eq_true]
    intro d hd
    obtain ⟨a, _, rfl⟩ := List.mem_map.mp hd
    exact decide_eq_true (Nat.le_trans (dep_tu a).2 (by decide))
  rw [h1, h2, h3]; rfl
def sortT (ls : List (List Int)) : List (List Int) := (sortD (ls.map tu)).map unTu
theorem sortD_tus (ls : List (List Int)) : sortD (ls.map tu) = (sortT ls).map tu ∧ (sortT ls).Perm ls := by
  have p : (sortD (ls.map tu)).Perm (ls.map tu) := List.mergeSort_perm _ _
  have all : ∀ d ∈ sortD (ls.map tu), tu (unTu d) = d := fun d hd => by
    obtain ⟨a, _, rfl⟩ := List.mem_map.mp (p.subset hd)
    rw [unTu_tu]
  refine ⟨?_, ?_⟩
  · unfold sortT
    rw [List.map_map]
    have e : ∀ l : List PyData, (∀ d ∈ l, tu (unTu d) = d) → l.map (tu ∘ unTu) = l := fun l h => by
      induction l with
      | nil => rfl
      | cons d r ih => rw [List.map_cons, ih fun x hx => h x (List.mem_cons_of_mem _ hx)]; show tu (unTu d) :: r = _; rw [h d List.mem_cons_self]
    exact (e _ all).symm
  · have q := p.map unTu
    rw [List.map_map] at q
    have e : ls.map (unTu ∘ tu) = ls := List.map_id'' (fun l => unTu_tu l) ls
    rw [e] at q
    exact q
@[simp] theorem bSorted_lt (ls : List (List Int)) : bSorted [lt ls] = .ok (lt (sortT ls)) := by
  have e : bSorted [.list (ls.map tu)] = .ok (.list (sortD (ls.map tu))) := if_pos (okSort_tus ls)
  rw [(sortD_tus ls).1] at e
  exact e
theorem mem_sortT {ls : List (List Int)} {l : List Int} : l ∈ sortT ls ↔ l ∈ ls := (sortD_tus ls).2.mem_iff
theorem sortT_perm (ls : List (List Int)) : (sortT ls).Perm ls := (sortD_tus ls).2
end PD
set_option Elab.async false
set_option linter.all false
set_option maxRecDepth 100000
set_option maxHeartbeats 1000000
namespace PD
open PySem PySem.Spec PyProof.Rows L2
def popO (d : PyData) (ds : List PyData) (ρ : Rho) (i : Nat) : Out := match d with
  | .int k => match seqIndex? k ds.length with
    | some j => if -(2 ^ 63) ≤ k ∧ k < 2 ^ 63 ∧ j < ds.length then .nx (ρ.set i (some (.own (ds.eraseIdx j)))) else .bad
    | none => .bad
  | _ => .bad
@[simp] theorem ev_popAt (i : Nat) (f : Dn) (ρ : Rho) : gPopAt i f ρ = ownA ρ[i]? fun ds => oR (f ρ) ρ fun d => popO d ds ρ i := rfl
@[simp] theorem flat_int (i : Int) : flat (.int i) = true := rfl
@[simp] theorem flat_bool (i : Bool) : flat (.bool i) = true := rfl
@[simp] theorem nx_bad {α β : Type} (k : α → R β) : nx .bad k = .bad := rfl
@[simp] theorem bLstR1_ok {n : Int} (h : rgOk 0 n = true) : bLstR1 (.int n) = .ok (li (rangeI 0 n)) := by
  have e : bLstR1 (.int n) = .ok (.list (lstRg 0 n)) := if_pos h
  rw [e]
  unfold lstRg li rangeI
  rw [List.map_map]; rfl
theorem rgOk_small {n : Int} (h : -1000 ≤ n) (h2 : n ≤ 100000) : rgOk 0 n = true := decide_eq_true ⟨by omega, by omega, by omega, by omega, by omega⟩
end PD
set_option Elab.async false
set_option linter.all false
set_option maxRecDepth 100000
set_option maxHeartbeats 1000000
namespace PD
open PySem PySem.Spec PyProof.Rows L2
theorem okSort_ints (l : List Int) : okSort (l.map PyData.int) = true := by
  unfold okSort
  have h1 : allAlike (l.map PyData.int) = true := by
    unfold allAlike
    rw [List.all_eq_true]
    intro d hd
    rw [List.all_eq_true]
    intro e he
    obtain ⟨a, _, rfl⟩ := List.mem_map.mp hd
    obtain ⟨b, _, rfl⟩ := List.mem_map.mp he
    rw [PySem.W.alike]
  have h2 : allNot (l.map PyData.int) = true := by
    unfold allNot
    rw [List.all_eq_true]
    intro d hd
    obtain ⟨a, _, rfl⟩ := List.mem_map.mp hd
    rfl
  have h3 : ((l.map PyData.int).all fun d => decide (d.depth ≤ 60)) = true := by
    rw [List.all_eq_true]
    intro d hd
    obtain ⟨a, _, rfl⟩ := List.mem_map.mp hd
    exact decide_eq_true (Nat.zero_le _)
  rw [h1, h2, h3, Bool.or_true]; rfl
def sortI (l : List Int) : List Int := (sortD (l.map PyData.int)).map unInt
theorem sortD_ints (l : List Int) : sortD (l.map PyData.int) = (sortI l).map PyData.int ∧ (sortI l).Perm l := by
  have p : (sortD (l.map PyData.int)).Perm (l.map PyData.int) := List.mergeSort_perm _ _
  have all : ∀ d ∈ sortD (l.map PyData.int), PyData.int (unInt d) = d := fun d hd => by
    obtain ⟨a, _, rfl⟩ := List.mem_map.mp (p.subset hd)
    rfl
  refine ⟨?_, ?_⟩
  · unfold sortI
    rw [List.map_map]
    have e : ∀ l : List PyData, (∀ d ∈ l, PyData.int (unInt d) = d) → l.map (PyData.int ∘ unInt) = l := fun l h => by
      induction l with
      | nil => rfl
      | cons d r ih => rw [List.map_cons, ih fun x hx => h x (List.mem_cons_of_mem _ hx)]; show PyData.int (unInt d) :: r = _; rw [h d List.mem_cons_self]
    exact (e _ all).symm
  · have q := p.map unInt
    rw [List.map_map] at q
    have e : l.map (unInt ∘ PyData.int) = l := List.map_id'' (fun _ => rfl) l
    rw [e] at q
    exact q
@[simp] theorem bSorted_li (l : List Int) : bSorted [li l] = .ok (li (sortI l)) := by
  have e : bSorted [.list (l.map .int)] = .ok (.list (sortD (l.map .int))) := if_pos (okSort_ints l)
  rw [(sortD_ints l).1] at e
  exact e
@[simp] theorem bSorted_tu (l : List Int) : bSorted [tu l] = .ok (li (sortI l)) := by
  have e : bSorted [.tuple (l.map .int)] = .ok (.list (sortD (l.map .int))) := if_pos (okSort_ints l)
  rw [(sortD_ints l).1] at e
  exact e
theorem mem_sortI {l : List Int} {x : Int} : x ∈ sortI l ↔ x ∈ l := (sortD_ints l).2.mem_iff
@[simp] theorem asTu_tu (l : List Int) : asTu (tu l) = some l := asInts_ints l
theorem keysOf_keyD (ks : List (List Int)) : keysOf (ks.map keyD) = ks.map some := by
  unfold keysOf
  rw [List.map_map]
  exact List.map_congr_left fun k _ => asInts_ints k
theorem marked_keyD (ks : List (List Int)) : marked (ks.map keyD) = false := by cases ks <;> rfl
@[simp] theorem oInT_tu (k : List Int) (ks : List (List Int)) : oInT (tu k) (.dict (ks.map keyD)) = .ok (.bool (decide (k ∈ ks))) := by
  show (match asTu (tu k) with | some k => if marked (ks.map keyD) = true then R.bad else R.ok (PyData.bool (decide (some k ∈ keysOf (ks.map keyD)))) | none => .bad) = _
  rw [asTu_tu, keysOf_keyD]
  show (if marked (ks.map keyD) = true then R.bad else R.ok (PyData.bool (decide (some k ∈ ks.map some)))) = _
  rw [if_neg (by rw [marked_keyD]; simp)]
  show R.ok (PyData.bool (decide (some k ∈ ks.map some))) = _
  congr 2
  by_cases h : k ∈ ks <;> simp [h]
@[simp] theorem oIx_t0 (a b c : PyData) : oIx (.tuple [a, b, c]) (.int 0) = .ok a := rfl
@[simp] theorem oIx_t1 (a b c : PyData) : oIx (.tuple [a, b, c]) (.int 1) = .ok b := rfl
@[simp] theorem oIx_t2 (a b c : PyData) : oIx (.tuple [a, b, c]) (.int 2) = .ok c := rfl
end PD
set_option Elab.async false
set_option linter.all false
set_option maxRecDepth 100000
set_option maxHeartbeats 1000000
namespace PD
open PySem PySem.Spec PyProof.Rows L2 NtL
theorem dataLt_tu : ∀ a b : List Int, PySem.W.dataLt (tu a) (tu b) = HT.lexLt a b
  | [], [] => by rfl
  | [], y :: b => by
    show PySem.W.dataLt (.tuple []) (.tuple (.int y :: b.map .int)) = true
    rw [PySem.W.dataLt_tuple]
    rfl
  | x :: a, [] => by
    show PySem.W.dataLt (.tuple (.int x :: a.map .int)) (.tuple []) = false
    rw [PySem.W.dataLt_tuple]
    rfl
  | x :: a, y :: b => by
    have ih := dataLt_tu a b
    show PySem.W.dataLt (.tuple (.int x :: a.map .int)) (.tuple (.int y :: b.map .int)) = _
    change PySem.W.dataLt (.tuple (a.map .int)) (.tuple (b.map .int)) = _ at ih
    rw [PySem.W.dataLt_tuple] at ih
    rw [PySem.W.dataLt_tuple, PySem.W.dataLt_cons (by rfl), ih, PySem.W.dataLt_int, HT.lexLt_cons]
    by_cases e : x = y
    · rw [if_pos e, if_pos (by subst e; simp [PyData.eqv])]
    · rw [if_neg e, if_neg (by simp [PyData.eqv, e])]
theorem leT_total (a b : List Int) : (leT a b || leT b a) = true := by
  unfold leT
  cases e : HT.lexLt b a with
  | false => rfl
  | true => rw [lex_asym b a e]; rfl
theorem leT_trans (a b c : List Int) (h1 : leT a b = true) (h2 : leT b c = true) : leT a c = true := by
  unfold leT at *
  have e1 : HT.lexLt b a = false := by simpa using h1
  have e2 : HT.lexLt c b = false := by simpa using h2
  rw [lex_tr a b c e1 e2]
  rfl
theorem lex_ne : ∀ a b : List Int, HT.lexLt a b = false → HT.lexLt b a = false → a = b
  | [], [], _, _ => rfl
  | [], _ :: _, h, _ => by cases h
  | _ :: _, [], _, h => by cases h
  | x :: a, y :: b, h1, h2 => by
    rw [HT.lexLt_cons] at h1 h2
    by_cases e : x = y
    · rw [if_pos e] at h1
      rw [if_pos e.symm] at h2
      rw [e, lex_ne a b h1 h2]
    · rw [if_neg e] at h1
      rw [if_neg (Ne.symm e)] at h2
      have a := of_decide_eq_false h1
      have b := of_decide_eq_false h2
      omega
theorem sortT_eq (ls : List (List Int)) : sortT ls = ls.mergeSort leT := by
  have h : sortD (ls.map tu) = (ls.mergeSort leT).map tu := by
    unfold sortD
    refine (List.map_mergeSort (f := tu) (r := leT) (s := PySem.W.dataLe false id) (l := ls) fun a _ b _ => ?_).symm
    show leT a b = !(PySem.W.dataLt (tu b) (tu a))
    rw [dataLt_tu]
    rfl
  unfold sortT
  rw [h, List.map_map]
  exact List.map_id'' (fun l => unTu_tu l) _
theorem sortT_le (ls : List (List Int)) : (sortT ls).Pairwise fun a b => leT a b = true := by
  rw [sortT_eq]
  exact List.pairwise_mergeSort leT_trans leT_total ls
/-- rows in strictly ascending order -/
def Asd (ls : List (List Int)) : Prop := ls.Pairwise fun a b => HT.lexLt a b = true
theorem asd_of {ls : List (List Int)} (h : ls.Pairwise fun a b => leT a b = true) (n : ls.Nodup) : Asd ls := by
  refine (h.and n).imp fun {a b} ⟨h1, h2⟩ => ?_
  cases e : HT.lexLt a b with
  | true => rfl
  | false =>
    unfold leT at h1
    exact absurd (lex_ne a b e (by simpa using h1)) h2
theorem asd_sortT {ls : List (List Int)} (n : ls.Nodup) : Asd (sortT ls) := asd_of (sortT_le ls) ((sortT_perm ls).nodup_iff.mpr n)
theorem lex_irr (a : List Int) : HT.lexLt a a = false := by
  cases e : HT.lexLt a a with
  | false => rfl
  | true =>
    have z := lex_asym a a e
    rw [e] at z
    exact z
theorem Asd.nodup {ls : List (List Int)} (h : Asd ls) : ls.Nodup := h.imp fun {a b} e z => by
  subst z
  rw [lex_irr] at e
  cases e
end PD
set_option Elab.async false
set_option linter.all false
set_option maxRecDepth 100000
set_option maxHeartbeats 1000000
namespace PD
open PySem PySem.Spec PyProof.Rows L2
end PD
set_option Elab.async false
set_option linter.all false
set_option maxRecDepth 100000
set_option maxHeartbeats 1000000
namespace PD
open PySem PySem.Spec PyProof.Rows L2
end PD
set_option Elab.async false
set_option linter.all false
set_option maxRecDepth 100000
set_option maxHeartbeats 1000000
namespace PD
open PySem PySem.Spec PyProof.Rows L2
end PD
set_option Elab.async false
set_option linter.all false
set_option maxRecDepth 100000
set_option maxHeartbeats 1000000
namespace PD
open PySem PySem.Spec PyProof.Rows L2
end PD
set_option Elab.async false
set_option linter.all false
set_option maxRecDepth 100000
set_option maxHeartbeats 1000000
namespace PD
open PySem PySem.Spec PyProof.Rows L2
end PD
set_option Elab.async false
set_option linter.all false
set_option maxRecDepth 100000
set_option maxHeartbeats 2000000
namespace PDC
open PySem PySem.Spec
open Sem (wp)
end PDC
set_option Elab.async false
set_option linter.all false
set_option maxRecDepth 100000
set_option maxHeartbeats 2000000
namespace PDC
open PySem PySem.Spec
open Sem (wp)
abbrev TupO (vs : List Value) : Obj := { cls := .type "tuple", dict := none, data := .seq vs.toArray, slots := #[] }
end PDC
set_option Elab.async false
set_option linter.all false
set_option maxRecDepth 100000
set_option maxHeartbeats 2000000
namespace PDC
open PySem PySem.Spec
open Sem (wp)
def pickV (vs : List Value) (js : List Nat) : List Value := js.map fun j => vs.toArray.getD j .none
end PDC
set_option Elab.async false
set_option linter.all false
set_option maxRecDepth 100000
set_option maxHeartbeats 2000000
namespace PDC
open PySem PySem.Spec
open Sem (wp)
end PDC
set_option Elab.async false
set_option linter.all false
set_option maxRecDepth 100000
set_option maxHeartbeats 2000000
namespace PDC
open PySem PySem.Spec
open Sem (wp)
inductive Made (h : Heap) (vs : List Value) : List Addr → List (List Nat) → Prop
  | nil : Made h vs [] []
  | cons {a : Addr} {as : List Addr} {j : List Nat} {js : List (List Nat)} : h.get? a = some (TupO (pickV vs j)) → Made h vs as js → Made h vs (a :: as) (j :: js)
theorem Made.mono {h h' : Heap} {vs : List Value} {as : List Addr} {js : List (List Nat)} (m : Made h vs as js) (k : ∀ a ∈ as, ∀ o, h.get? a = some o → h'.get? a = some o) : Made h' vs as js := by
  induction m with
  | nil => exact .nil
  | cons e m ih => exact .cons (k _ List.mem_cons_self _ e) (ih fun a ha => k a (List.mem_cons_of_mem _ ha))
end PDC
set_option Elab.async false
set_option linter.all false
set_option maxRecDepth 100000
set_option maxHeartbeats 2000000
namespace PDC
open PySem PySem.Spec
open Sem (wp)
end PDC
set_option Elab.async false
set_option linter.all false
set_option maxRecDepth 100000
set_option maxHeartbeats 2000000
namespace PD
open PySem PySem.Spec PyProof.Rows L2 PDC
end PD
set_option Elab.async false
set_option linter.all false
set_option maxRecDepth 100000
set_option maxHeartbeats 1000000
namespace PD
open PySem PySem.Spec PyProof.Rows L2 PDC
end PD
set_option Elab.async false
set_option linter.all false
set_option maxRecDepth 100000
set_option maxHeartbeats 1000000
namespace PD
open PySem PySem.Spec PyProof.Rows L2 PDC
end PD
set_option Elab.async false
set_option linter.all false
set_option maxRecDepth 100000
set_option maxHeartbeats 1000000
namespace PD
open PySem PySem.Spec PyProof.Rows L2
end PD
set_option Elab.async false
set_option linter.all false
set_option maxRecDepth 100000
set_option maxHeartbeats 1000000
namespace PD
open PySem PySem.Spec PyProof.Rows L2
end PD
set_option Elab.async false
set_option linter.all false
set_option maxRecDepth 100000
set_option maxHeartbeats 1000000
namespace PD
open PySem PySem.Spec PyProof.Rows L2
end PD
set_option Elab.async false
set_option linter.all false
set_option maxRecDepth 100000
set_option maxHeartbeats 1000000
namespace PD
open PySem PySem.Spec PyProof.Rows L2
end PD
set_option Elab.async false
set_option linter.all false
set_option maxRecDepth 100000
set_option maxHeartbeats 1000000
namespace PD
open PySem PySem.Spec PyProof.Rows L2
end PD
set_option Elab.async false
set_option linter.all false
set_option maxRecDepth 100000
set_option maxHeartbeats 1000000
namespace PD
open PySem PySem.Spec PyProof.Rows L2 HotX L2H
end PD
set_option Elab.async false
set_option linter.all false
set_option maxRecDepth 100000
set_option maxHeartbeats 1000000
namespace PD
open PySem PySem.Spec PyProof.Rows L2
end PD
set_option Elab.async false
set_option linter.all false
set_option maxRecDepth 100000
set_option maxHeartbeats 1000000
namespace PD
open PySem PySem.Spec PySem.W PySem.Calls PyProof.Rows
end PD
set_option Elab.async false
set_option linter.all false
set_option maxRecDepth 100000
set_option maxHeartbeats 1000000
namespace PD
open PySem PySem.Spec PyProof.Rows L2
end PD
set_option Elab.async false
set_option linter.all false
set_option maxRecDepth 100000
set_option maxHeartbeats 1000000
namespace PD
open PySem PySem.Spec PyProof.Rows L2
end PD
set_option Elab.async false
set_option linter.all false
set_option maxRecDepth 100000
set_option maxHeartbeats 1000000
namespace PD
open PySem PySem.Spec PyProof.Rows L2
end PD
set_option Elab.async false
set_option linter.all false
set_option maxRecDepth 100000
set_option maxHeartbeats 1000000
namespace PD
open PySem PySem.Spec PyProof.Rows L2
/-- the value at a key -/
def getK (kvs : List (Int × PyData)) (k : Int) : Option PyData := (kvs.find? fun x => decide (x.1 = k)).map (·.2)
/-- a store: in its place, or at the end -/
def putKD (kvs : List (Int × PyData)) (k : Int) (v : PyData) : List (Int × PyData) := if (kvs.any fun x => decide (x.1 = k)) = true then kvs.map (fun x => if x.1 = k then (x.1, v) else x) else kvs ++ [(k, v)]
/-- a dict reads as data -/
def DkR (K : PySem.W.Frag) (G : Hp) (vs : List (Key × V)) (ds : List (Int × PyData)) : Prop := vs.map (·.1) = ds.map (fun x => Sum.inl x.1) ∧ RpAll K G (vs.map (·.2)) (ds.map (·.2))
section
variable {K : PySem.W.Frag} {G G' : Hp}
theorem DkR.nil : DkR K G [] [] := ⟨rfl, .nil⟩
theorem DkR.cons {a : Int} {v : V} {d : PyData} {vs : List (Key × V)} {ds : List (Int × PyData)} (r : Rp K G v d) (h : DkR K G vs ds) : DkR K G ((Sum.inl a, v) :: vs) ((a, d) :: ds) := ⟨by rw [List.map_cons, List.map_cons, h.1], .cons r h.2⟩
theorem DkR.inv {p : Key × V} {q : Int × PyData} {vs : List (Key × V)} {ds : List (Int × PyData)} (h : DkR K G (p :: vs) (q :: ds)) : p.1 = Sum.inl q.1 ∧ Rp K G p.2 q.2 ∧ DkR K G vs ds := by
  obtain ⟨h1, h2⟩ := h
  rw [List.map_cons, List.map_cons] at h1 h2
  injection h1 with h1 h3
  cases h2 with
  | cons a b => exact ⟨h1, a, h3, b⟩
theorem DkR.mono (s : Sub G G') {vs : List (Key × V)} {ds : List (Int × PyData)} (h : DkR K G vs ds) : DkR K G' vs ds := ⟨h.1, h.2.mono s⟩
theorem DkR.len {vs : List (Key × V)} {ds : List (Int × PyData)} (h : DkR K G vs ds) : vs.length = ds.length := by
  have := congrArg List.length h.1
  rwa [List.length_map, List.length_map] at this
theorem inl_iff {a k : Int} : ((Sum.inl a : Key) = Sum.inl k) ↔ a = k := ⟨fun z => by injection z, fun z => by rw [z]⟩
theorem DkR.any (k : Int) : ∀ {vs : List (Key × V)} {ds : List (Int × PyData)}, DkR K G vs ds → (vs.any fun x => decide (x.1 = Sum.inl k)) = ds.any fun x => decide (x.1 = k)
  | [], [], _ => rfl
  | [], _ :: _, h => by cases h.1
  | _ :: _, [], h => by cases h.1
  | p :: vs, q :: ds, h => by
    obtain ⟨h1, _, h3⟩ := h.inv
    rw [List.any_cons, List.any_cons, h3.any k, h1]
    congr 1
    exact decide_eq_decide.mpr inl_iff
theorem DkR.repl (k : Int) {v : V} {d : PyData} (r : Rp K G v d) : ∀ {vs : List (Key × V)} {ds : List (Int × PyData)}, DkR K G vs ds → DkR K G (vs.map fun x => if x.1 = Sum.inl k then (x.1, v) else x) (ds.map fun x => if x.1 = k then (x.1, d) else x)
  | [], [], _ => .nil
  | [], _ :: _, h => by cases h.1
  | _ :: _, [], h => by cases h.1
  | p :: vs, q :: ds, h => by
    obtain ⟨h1, h2, h3⟩ := h.inv
    obtain ⟨a, b⟩ := p
    obtain ⟨c, e⟩ := q
    have h1 : a = Sum.inl c := h1
    subst h1
    rw [List.map_cons, List.map_cons]
    by_cases hc : c = k
    · rw [if_pos (inl_iff.mpr hc), if_pos hc]
      exact .cons r (h3.repl k r)
    · rw [if_neg (fun z => hc (inl_iff.mp z)), if_neg hc]
      exact .cons h2 (h3.repl k r)
theorem DkR.snoc {k : Int} {v : V} {d : PyData} (r : Rp K G v d) : ∀ {vs : List (Key × V)} {ds : List (Int × PyData)}, DkR K G vs ds → DkR K G (vs ++ [(Sum.inl k, v)]) (ds ++ [(k, d)])
  | [], [], _ => .cons r .nil
  | [], _ :: _, h => by cases h.1
  | _ :: _, [], h => by cases h.1
  | p :: vs, q :: ds, h => by
    obtain ⟨h1, h2, h3⟩ := h.inv
    obtain ⟨a, b⟩ := p
    obtain ⟨c, e⟩ := q
    have h1 : a = Sum.inl c := h1
    subst h1
    exact .cons h2 (h3.snoc r)
theorem DkR.put {k : Int} {v : V} {d : PyData} (r : Rp K G v d) {vs : List (Key × V)} {ds : List (Int × PyData)} (h : DkR K G vs ds) : DkR K G (putK vs (Sum.inl k) v) (putKD ds k d) := by
  unfold putK putKD
  rw [h.any k]
  split
  · exact h.repl k r
  · exact h.snoc r
theorem DkR.val {k : Int} {d : PyData} : ∀ {vs : List (Key × V)} {ds : List (Int × PyData)}, DkR K G vs ds → getK ds k = some d → ∃ v, valV vs (Sum.inl k) = some v ∧ Rp K G v d
  | [], [], _, e => by cases e
  | [], _ :: _, h, _ => by cases h.1
  | _ :: _, [], h, _ => by cases h.1
  | p :: vs, q :: ds, h, e => by
    obtain ⟨h1, h2, h3⟩ := h.inv
    unfold getK at e
    rw [List.find?_cons] at e
    by_cases c : q.1 = k
    · rw [decide_eq_true c] at e
      cases e
      exact ⟨p.2, valV_pos (by rw [h1, c]), h2⟩
    · rw [decide_eq_false c] at e
      obtain ⟨v, e1, e2⟩ := h3.val (k := k) (d := d) e
      exact ⟨v, by rw [valV_neg (fun z => c (inl_iff.mp (h1.symm.trans z)))]; exact e1, e2⟩
theorem DkR.none {k : Int} : ∀ {vs : List (Key × V)} {ds : List (Int × PyData)}, DkR K G vs ds → getK ds k = none → valV vs (Sum.inl k) = none
  | [], [], _, e => rfl
  | [], _ :: _, h, _ => by cases h.1
  | _ :: _, [], h, _ => by cases h.1
  | p :: vs, q :: ds, h, e => by
    obtain ⟨h1, h2, h3⟩ := h.inv
    unfold getK at e
    rw [List.find?_cons] at e
    by_cases c : q.1 = k
    · rw [decide_eq_true c] at e
      cases e
    · rw [decide_eq_false c] at e
      rw [valV_neg (fun z => c (inl_iff.mp (h1.symm.trans z)))]
      exact h3.none e
end
theorem plain_dk (kvs : List (Key × V)) : Plain (.dK kvs) := ⟨fun _ _ h => (by unfold LamX.CodeO at h; cases h), fun _ h => (by cases h)⟩
end PD
set_option Elab.async false
set_option linter.all false
set_option maxRecDepth 100000
set_option maxHeartbeats 1000000
namespace PD
open PySem PySem.Spec PyProof.Rows L2
def asKv : List (PyData × PyData) → Option (List (Int × PyData))
  | [] => some []
  | (.int k, v) :: l => match asKv l with
    | some r => some ((k, v) :: r)
    | none => none
  | _ => none
def asDk : PyData → Option (List (Int × PyData))
  | .dict ((.bool true, .none) :: l) => asKv l
  | _ => none
theorem asKv_map : ∀ ks : List (Int × PyData), asKv (ks.map fun x => (PyData.int x.1, x.2)) = some ks
  | [] => rfl
  | x :: ks => by rw [List.map_cons, asKv, asKv_map ks]
@[simp] theorem asDk_dkD (ks : List (Int × PyData)) : asDk (dkD ks) = some ks := asKv_map ks
section
variable {K : PySem.W.Frag} {G H : Hp} {O : List Addr}
theorem DkR.some {vs : List (Key × V)} {ds : List (Int × PyData)} (k : Int) (h : DkR K G vs ds) : (valV vs (.inl k)).isSome = (getK ds k).isSome := by
  cases hg : getK ds k with
  | none => rw [h.none hg]; rfl
  | some d => obtain ⟨w, e, _⟩ := h.val hg; rw [e]; rfl
end
end PD
set_option Elab.async false
set_option linter.all false
set_option maxRecDepth 100000
set_option maxHeartbeats 1000000
namespace PD
open PySem PySem.Spec PyProof.Rows L2
end PD
set_option Elab.async false
set_option linter.all false
set_option maxRecDepth 100000
set_option maxHeartbeats 1000000
namespace PD
open PySem PySem.Spec PyProof.Rows L2
end PD
set_option Elab.async false
set_option linter.all false
set_option maxRecDepth 100000
set_option maxHeartbeats 1000000
namespace PD
open PySem PySem.Spec PyProof.Rows L2
inductive Vl where
  | p (d : PyData)
  | rf (l : Nat)
  | tp (xs : List Vl)
inductive Cell where
  | lst (xs : List Vl)
  | ins (C : Addr) (fs : List (Str × Vl))
  | dk (ks : List (Int × PyData))
abbrev Store := List Cell
abbrev RhoO := List (Option Vl)
mutual
inductive VlR (K : PySem.W.Frag) (G : Hp) (ι : List Addr) : V → Vl → Prop
  | p {v : V} {d : PyData} : Rp K G v d → VlR K G ι v (.p d)
  | rf {a : Addr} {l : Nat} : ι[l]? = some a → VlR K G ι (.ref a) (.rf l)
  | tp {a : Addr} {vs : List V} {xs : List Vl} : SqT K G a vs → xs.length ≤ sizeLine → VlRs K G ι vs xs → VlR K G ι (.ref a) (.tp xs)
inductive VlRs (K : PySem.W.Frag) (G : Hp) (ι : List Addr) : List V → List Vl → Prop
  | nil : VlRs K G ι [] []
  | cons {v : V} {vs : List V} {x : Vl} {xs : List Vl} : VlR K G ι v x → VlRs K G ι vs xs → VlRs K G ι (v :: vs) (x :: xs)
end
def CellR (K : PySem.W.Frag) (G H : Hp) (ι : List Addr) (a : Addr) : Cell → Prop
  | .lst xs => ∃ vs, H a = some (.lst vs) ∧ xs.length ≤ sizeLine ∧ VlRs K G ι vs xs
  | .ins C fs => ∃ dx gs, H a = some (.ins C dx gs) ∧ gs.map (·.1) = fs.map (·.1) ∧ VlRs K G ι (gs.map (·.2)) (fs.map (·.2))
  | .dk ks => ∃ kvs, H a = some (.dK kvs) ∧ DkR K G kvs ks
section
variable {K : PySem.W.Frag} {G G' : Hp} {ι ι' : List Addr}
theorem pre_get {l : Nat} {a : Addr} (p : ι <+: ι') (h : ι[l]? = some a) : ι'[l]? = some a := by
  obtain ⟨t, rfl⟩ := p
  rw [List.getElem?_append_left ((List.getElem?_eq_some_iff.mp h).1)]
  exact h
theorem VlR.mono (s : Sub G G') (p : ι <+: ι') {v : V} {x : Vl} (h : VlR K G ι v x) : VlR K G' ι' v x :=
  VlR.rec (motive_1 := fun v x _ => VlR K G' ι' v x) (motive_2 := fun vs xs _ => VlRs K G' ι' vs xs) (fun r => .p (Rp.mono s r)) (fun h => .rf (pre_get p h)) (fun a z _ b => .tp (s.sqT a) z b) .nil (fun _ _ a b => .cons a b) h
theorem VlRs.mono (s : Sub G G') (p : ι <+: ι') : ∀ {vs : List V} {xs : List Vl}, VlRs K G ι vs xs → VlRs K G' ι' vs xs
  | _, _, .nil => .nil
  | _, _, .cons a b => .cons (a.mono s p) (VlRs.mono s p b)
theorem VlRs.length : ∀ {vs : List V} {xs : List Vl}, VlRs K G ι vs xs → vs.length = xs.length
  | _, _, .nil => rfl
  | _, _, .cons _ t => by simp [VlRs.length t]
theorem VlRs.get : ∀ {vs : List V} {xs : List Vl} {i : Nat} {x : Vl}, VlRs K G ι vs xs → xs[i]? = some x → ∃ v, vs[i]? = some v ∧ VlR K G ι v x
  | _, _, _, _, .nil, h => by simp at h
  | _, _, 0, _, .cons r _, h => by simp at h; subst h; exact ⟨_, rfl, r⟩
  | _, _, i + 1, _, .cons _ t, h => by
    obtain ⟨v, h1, h2⟩ := VlRs.get (i := i) t (by simpa using h)
    exact ⟨v, by simpa using h1, h2⟩
theorem VlRs.append : ∀ {vs ws : List V} {xs ys : List Vl}, VlRs K G ι vs xs → VlRs K G ι ws ys → VlRs K G ι (vs ++ ws) (xs ++ ys)
  | _, _, _, _, .nil, q => q
  | _, _, _, _, .cons r t, q => .cons r (VlRs.append t q)
theorem VlRs.one {v : V} {x : Vl} (h : VlR K G ι v x) : VlRs K G ι [v] [x] := .cons h .nil
theorem VlRs.set {v : V} {x : Vl} (r : VlR K G ι v x) : ∀ {vs : List V} {xs : List Vl} (i : Nat), VlRs K G ι vs xs → VlRs K G ι (vs.set i v) (xs.set i x)
  | _, _, _, .nil => .nil
  | _, _, 0, .cons _ t => .cons r t
  | _, _, i + 1, .cons q t => .cons q (VlRs.set r i t)
theorem VlRs.erase : ∀ {vs : List V} {xs : List Vl} (i : Nat), VlRs K G ι vs xs → VlRs K G ι (vs.eraseIdx i) (xs.eraseIdx i)
  | _, _, _, .nil => .nil
  | _, _, 0, .cons _ t => t
  | _, _, i + 1, .cons q t => .cons q (VlRs.erase i t)
theorem VlRs.ofRp : ∀ {vs : List V} {ds : List PyData}, RpAll K G vs ds → VlRs K G ι vs (ds.map .p)
  | _, _, .nil => .nil
  | _, _, .cons a b => .cons (.p a) (VlRs.ofRp b)
theorem CellR.mono {H H' : Hp} (s : Sub G G') (p : ι <+: ι') {a : Addr} {c : Cell} (e : H' a = H a) (h : CellR K G H ι a c) : CellR K G' H' ι' a c := by
  cases c with
  | lst xs => obtain ⟨vs, h1, z, h2⟩ := h; exact ⟨vs, e.trans h1, z, h2.mono s p⟩
  | ins C fs => obtain ⟨dx, gs, h1, h2, h3⟩ := h; exact ⟨dx, gs, e.trans h1, h2, h3.mono s p⟩
  | dk ks => obtain ⟨kvs, h1, h2⟩ := h; exact ⟨kvs, e.trans h1, h2.mono s⟩
/-- what stands where a cell lies -/
def CellO (o : HO) : Prop := (∃ vs, o = .lst vs) ∨ (∃ C dx gs, o = .ins C dx gs) ∨ ∃ kvs, o = .dK kvs
theorem CellO.plain {o : HO} (h : CellO o) : Plain o := by
  rcases h with ⟨vs, rfl⟩ | ⟨C, dx, gs, rfl⟩ | ⟨kvs, rfl⟩
  · exact plain_lst vs
  · exact ⟨fun _ _ h => (by unfold LamX.CodeO at h; cases h), fun _ h => (by cases h)⟩
  · exact plain_dk kvs
theorem CellR.obj {H : Hp} {a : Addr} {c : Cell} (h : CellR K G H ι a c) : ∃ o, H a = some o ∧ CellO o := by
  cases c with
  | lst xs => obtain ⟨vs, h1, _⟩ := h; exact ⟨_, h1, .inl ⟨_, rfl⟩⟩
  | ins C fs => obtain ⟨dx, gs, h1, _⟩ := h; exact ⟨_, h1, .inr (.inl ⟨_, _, _, rfl⟩)⟩
  | dk ks => obtain ⟨kvs, h1, _⟩ := h; exact ⟨_, h1, .inr (.inr ⟨_, rfl⟩)⟩
end
structure BaseO (K : PySem.W.Frag) (Tb O ι : List Addr) (H : Hp) (S : Store) : Prop where
  al : Al O H
  tab : ∀ P ∈ Tb, TabC H P
  nd : ι.Nodup
  dj : ∀ b ∈ ι, b ∉ O
  len : ι.length = S.length
  cell : ∀ (l : Nat) (c : Cell) (a : Addr), S[l]? = some c → ι[l]? = some a → CellR K (hide (O ++ ι) H) H ι a c
structure TrO (ι : List Addr) (H : Hp) (ι' : List Addr) (H' : Hp) : Prop where
  pre : ι <+: ι'
  keep : ∀ b o, H b = some o → b ∉ ι → (∀ ps, o ≠ .tbl ps) → H' b = some o
  tab : ∀ b, TabC H b → TabC H' b
  al : ∀ b, H b ≠ none → H' b ≠ none
  new : ∀ b ∈ ι', b ∉ ι → H b = none
section
variable {K : PySem.W.Frag} {Tb O ι ι' ι1 ι2 : List Addr} {H H' H1 H2 : Hp} {S : Store}
theorem TrO.refl (ι : List Addr) (H : Hp) : TrO ι H ι H := ⟨List.prefix_refl _, fun _ _ h _ _ => h, fun _ h => h, fun _ h => h, fun _ h n => absurd h n⟩
theorem TrO.ext (e : Ext H H') : TrO ι H ι H' := ⟨List.prefix_refl _, fun b o h _ t => e.keep b o h t, e.tab, e.al, fun _ h n => absurd h n⟩
theorem TrO.trans (a : TrO ι H ι1 H1) (b : TrO ι1 H1 ι2 H2) : TrO ι H ι2 H2 where
  pre := a.pre.trans b.pre
  keep := fun c o h n t => b.keep c o (a.keep c o h n t) (fun m => by rw [a.new c m n] at h; cases h) t
  tab := fun c h => b.tab c (a.tab c h)
  al := fun c h => b.al c (a.al c h)
  new := fun c m n => by
    by_cases m1 : c ∈ ι1
    · exact a.new c m1 n
    · have h := b.new c m m1
      cases q : H c with
      | none => rfl
      | some o => exact absurd h (a.al c (by rw [q]; simp))
theorem TrO.sub (a : TrO ι H ι1 H1) : Sub (hide (O ++ ι) H) (hide (O ++ ι1) H1) := fun b o h t => by
  obtain ⟨h1, h2⟩ := hide_some h
  rw [List.mem_append, not_or] at h1
  rw [hide_out]
  · exact a.keep b o h2 h1.2 t
  · rw [List.mem_append, not_or]
    exact ⟨h1.1, fun m => by rw [a.new b m h1.2] at h2; cases h2⟩
theorem TrO.hid (a : TrO ι H ι1 H1) : Ext (hide (O ++ ι) H) H1 where
  keep := fun b o h t => by
    obtain ⟨h1, h2⟩ := hide_some h
    rw [List.mem_append, not_or] at h1
    exact a.keep b o h2 h1.2 t
  tab := fun b t => a.tab b (Ext.unhide.tab b t)
  al := fun b h => a.al b (Ext.unhide.al b h)
theorem BaseO.obj (B : BaseO K Tb O ι H S) {b : Addr} (m : b ∈ ι) : ∃ o, H b = some o ∧ CellO o := by
  obtain ⟨l, hl⟩ := List.mem_iff_getElem?.mp m
  have il : l < S.length := by rw [← B.len]; exact (List.getElem?_eq_some_iff.mp hl).1
  exact (B.cell l S[l] b (List.getElem?_eq_getElem il) hl).obj
theorem BaseO.alA (B : BaseO K Tb O ι H S) : Al (O ++ ι) H := fun b m => by
  rcases List.mem_append.mp m with m | m
  · exact B.al b m
  · obtain ⟨o, h, _⟩ := B.obj m; rw [h]; simp
theorem BaseO.step (B : BaseO K Tb O ι H S) (e : Ext H H') : BaseO K Tb O ι H' S where
  al := fun b m => e.al b (B.al b m)
  tab := fun P m => e.tab P (B.tab P m)
  nd := B.nd
  dj := B.dj
  len := B.len
  cell := fun l c a h1 h2 => by
    have r := B.cell l c a h1 h2
    obtain ⟨o, h, q⟩ := r.obj
    exact r.mono (Sub.hide e.keep) (List.prefix_refl _) (by rw [h]; exact e.keep a o h q.plain.2)
theorem nodup_inj {l : List Addr} (n : l.Nodup) {i j : Nat} {b : Addr} (h1 : l[i]? = some b) (h2 : l[j]? = some b) : i = j := by
  obtain ⟨a1, b1⟩ := List.getElem?_eq_some_iff.mp h1
  obtain ⟨a2, b2⟩ := List.getElem?_eq_some_iff.mp h2
  have p := List.pairwise_iff_getElem.mp n
  rcases Nat.lt_trichotomy i j with h | h | h
  · exact absurd (b1.trans b2.symm) (p i j a1 a2 h)
  · exact h
  · exact absurd (b2.trans b1.symm) (p j i a2 a1 h)
/-- a cell's place is written -/
theorem BaseO.put (B : BaseO K Tb O ι H S) {l : Nat} {a : Addr} {o' : HO} {c' : Cell} (ha : ι[l]? = some a) (r : CellR K (hide (O ++ ι) H) (upd H a o') ι a c') : BaseO K Tb O ι (upd H a o') (S.set l c') ∧ TrO ι H ι (upd H a o') := by
  have ma : a ∈ ι := List.mem_of_getElem? ha
  have il : l < ι.length := (List.getElem?_eq_some_iff.mp ha).1
  obtain ⟨o, ho, co⟩ := B.obj ma
  have hh : hide (O ++ ι) (upd H a o') = hide (O ++ ι) H := hide_upd (List.mem_append_right _ ma)
  have tab : ∀ b, TabC H b → TabC (upd H a o') b := fun b t => by
    have hb : b ≠ a := tabG_ne t fun ps q => by rw [ho] at q; exact co.plain.2 ps (Option.some.inj q)
    exact t.mono (fun ps h => by rw [upd_ne hb]; exact h) fun c q h => by
      rw [upd_ne fun z => by subst z; exact co.plain.1 _ q (Option.some.inj (ho.symm.trans h))]; exact h
  have al : ∀ b, H b ≠ none → upd H a o' b ≠ none := fun b h => by
    by_cases hb : b = a
    · rw [hb, upd_same]; simp
    · rw [upd_ne hb]; exact h
  refine ⟨⟨fun b m => al b (B.al b m), fun P m => tab P (B.tab P m), B.nd, B.dj, by rw [List.length_set]; exact B.len, fun k c b h1 h2 => ?_⟩, ⟨List.prefix_refl _, fun b x h n t => ?_, tab, al, fun _ h n => absurd h n⟩⟩
  · rw [hh]
    by_cases ek : l = k
    · subst ek
      rw [List.getElem?_set_self (by rw [← B.len]; exact il)] at h1
      cases h1
      rw [ha] at h2
      cases h2
      exact r
    · rw [List.getElem?_set_ne ek] at h1
      have hb : b ≠ a := fun e => by
        subst e
        exact ek (nodup_inj B.nd ha h2)
      exact (B.cell k c b h1 h2).mono (fun _ _ h _ => h) (List.prefix_refl _) (upd_ne hb)
  · rw [upd_ne fun e => n (by rw [e]; exact ma)]; exact h
/-- a new cell -/
theorem BaseO.more (B : BaseO K Tb O ι H S) (e : Ext H H') {a : Addr} {c : Cell} (n : H a = none) (r : CellR K (hide (O ++ (ι ++ [a])) H') H' (ι ++ [a]) a c) : BaseO K Tb O (ι ++ [a]) H' (S ++ [c]) ∧ TrO ι H (ι ++ [a]) H' := by
  have na : a ∉ ι := fun m => by obtain ⟨o, h, _⟩ := B.obj m; rw [n] at h; cases h
  have nO : a ∉ O := fun m => B.al a m n
  have new : ∀ b ∈ ι ++ [a], b ∉ ι → H b = none := fun b m h => by
    rcases List.mem_append.mp m with m | m
    · exact absurd m h
    · rw [List.mem_singleton.mp m]; exact n
  have tr : TrO ι H (ι ++ [a]) H' := ⟨List.prefix_append _ _, fun b o h _ t => e.keep b o h t, e.tab, e.al, new⟩
  refine ⟨⟨fun b m => e.al b (B.al b m), fun P m => e.tab P (B.tab P m), ?_, fun b m => ?_, by simp [B.len], fun k c' b h1 h2 => ?_⟩, tr⟩
  · exact List.nodup_append.mpr ⟨B.nd, by simp, fun x hx y hy => by rw [List.mem_singleton.mp hy]; exact fun z => na (z ▸ hx)⟩
  · rcases List.mem_append.mp m with m | m
    · exact B.dj b m
    · rw [List.mem_singleton.mp m]; exact nO
  · by_cases hk : k < S.length
    · rw [List.getElem?_append_left hk] at h1
      rw [List.getElem?_append_left (by rw [B.len]; exact hk)] at h2
      have r0 := B.cell k c' b h1 h2
      obtain ⟨o, h, q⟩ := r0.obj
      exact r0.mono tr.sub tr.pre (by rw [h]; exact e.keep b o h q.plain.2)
    · have h2l := (List.getElem?_eq_some_iff.mp h2).1
      have hk2 : k = S.length := by
        rw [List.length_append, B.len] at h2l
        simp at h2l
        omega
      subst hk2
      rw [List.getElem?_append_right (Nat.le_refl _), Nat.sub_self] at h1
      rw [← B.len, List.getElem?_append_right (Nat.le_refl _), Nat.sub_self] at h2
      cases h1
      cases h2
      exact r
end
mutual
def noMut : PyData → Bool
  | .none | .bool _ | .int _ | .str _ => true
  | .tuple xs => noMuts xs
  | _ => false
def noMuts : List PyData → Bool
  | [] => true
  | x :: xs => noMut x && noMuts xs
end
section
variable {K : PySem.W.Frag} {G G' : Hp}
theorem sqT_over (h : ∀ b xs, G b = some (.tup xs) → G' b = some (.tup xs)) (h2 : ∀ b o xs, G b = some (.frz o (.tup xs)) → G' b = some (.frz o (.tup xs))) {a : Addr} {xs : List V} (s : SqT K G a xs) : SqT K G' a xs := by
  rcases s with (s | ⟨o, s⟩) | s
  · exact .inl (.inl (h _ _ s))
  · exact .inl (.inr ⟨o, h2 _ _ _ s⟩)
  · exact .inr s
mutual
theorem noMut_rp (h : ∀ b xs, G b = some (.tup xs) → G' b = some (.tup xs)) (h2 : ∀ b o xs, G b = some (.frz o (.tup xs)) → G' b = some (.frz o (.tup xs))) : ∀ {d : PyData} {v : V}, noMut d = true → Rp K G v d → Rp K G' v d
  | .none, _, _, r => by cases r; exact .non
  | .bool _, _, _, r => by cases r; exact .bl _
  | .int _, _, _, r => by cases r; exact .int _
  | .str _, _, _, r => by cases r; exact .str _
  | .list _, _, n, _ => by cases n
  | .dict _, _, n, _ => by cases n
  | .tuple xs, _, n, r => by
    cases r with
    | tup a z b => exact .tup (sqT_over h h2 a) z (noMuts_rp h h2 (xs := xs) n b)
theorem noMuts_rp (h : ∀ b xs, G b = some (.tup xs) → G' b = some (.tup xs)) (h2 : ∀ b o xs, G b = some (.frz o (.tup xs)) → G' b = some (.frz o (.tup xs))) : ∀ {xs : List PyData} {vs : List V}, noMuts xs = true → RpAll K G vs xs → RpAll K G' vs xs
  | [], _, _, r => by cases r; exact .nil
  | x :: xs, _, n, r => by
    have n : (noMut x && noMuts xs) = true := n
    rw [Bool.and_eq_true] at n
    cases r with
    | cons a b => exact .cons (noMut_rp h h2 n.1 a) (noMuts_rp h h2 n.2 b)
end
end
section
variable {K : PySem.W.Frag} {Tb O ι : List Addr} {H H' : Hp} {S : Store}
theorem BaseO.tups (B : BaseO K Tb O ι H S) (b : Addr) (xs : List V) (h : hide O H b = some (.tup xs)) : hide (O ++ ι) H b = some (.tup xs) := by
  obtain ⟨h1, h2⟩ := hide_some h
  rw [hide_out]
  · exact h2
  · rw [List.mem_append, not_or]
    refine ⟨h1, fun m => ?_⟩
    obtain ⟨o, h, q⟩ := B.obj m
    rw [h2] at h
    cases h
    rcases q with ⟨vs, e⟩ | ⟨C, dx, gs, e⟩ | ⟨kvs, e⟩ <;> cases e
theorem BaseO.frzs (B : BaseO K Tb O ι H S) (b : Addr) (o : Obj) (xs : List V) (h : hide O H b = some (.frz o (.tup xs))) : hide (O ++ ι) H b = some (.frz o (.tup xs)) := by
  obtain ⟨h1, h2⟩ := hide_some h
  rw [hide_out]
  · exact h2
  · rw [List.mem_append, not_or]
    refine ⟨h1, fun m => ?_⟩
    obtain ⟨o, h, q⟩ := B.obj m
    rw [h2] at h
    cases h
    rcases q with ⟨vs, e⟩ | ⟨C, dx, gs, e⟩ | ⟨kvs, e⟩ <;> cases e
theorem BaseO.noMut (B : BaseO K Tb O ι H S) {v : V} {d : PyData} (n : noMut d = true) (r : Rp K (hide O H) v d) : Rp K (hide (O ++ ι) H) v d := noMut_rp B.tups B.frzs n r
theorem BaseO.noMuts (B : BaseO K Tb O ι H S) {vs : List V} {ds : List PyData} (n : noMuts ds = true) (r : RpAll K (hide O H) vs ds) : RpAll K (hide (O ++ ι) H) vs ds := noMuts_rp B.tups B.frzs n r
end
def mapO {α β : Type} (f : α → Option β) : List α → Option (List β)
  | [] => some []
  | x :: xs => match f x, mapO f xs with
    | some y, some ys => some (y :: ys)
    | _, _ => none
def snapV : Nat → Store → Vl → Option PyData
  | _, _, .p d => some d
  | 0, _, _ => none
  | n + 1, S, .rf l => match S[l]? with
    | some (.lst xs) => (match mapO (snapV n S) xs with | some ds => some (.list ds) | none => none)
    | some (.ins C fs) => (match mapO (snapV n S) (fs.map (·.2)) with | some ds => some (obD C ((fs.map (·.1)).zip ds)) | none => none)
    | _ => none
  | n + 1, S, .tp xs => (match mapO (snapV n S) xs with | some ds => some (.tuple ds) | none => none)
def snapR (S : Store) (ρ : RhoO) : Rho := ρ.map fun x => match x with
  | some x => (match snapV 6 S x with | some d => some (.d d) | none => none)
  | none => none
def maskR (ρ : RhoO) : Rho := ρ.map fun x => match x with
  | some (.p d) => some (.d d)
  | _ => none
section
variable {K : PySem.W.Frag} {Tb O ι : List Addr} {H H' : Hp} {S : Store}
theorem mapO_len {α β : Type} {f : α → Option β} : ∀ {xs : List α} {ys : List β}, mapO f xs = some ys → ys.length = xs.length
  | [], ys, h => by cases h; rfl
  | x :: xs, ys, h => by
    unfold mapO at h
    cases e1 : f x with
    | none => rw [e1] at h; cases h
    | some y =>
      cases e2 : mapO f xs with
      | none => rw [e1, e2] at h; cases h
      | some zs => rw [e1, e2] at h; cases h; simp [mapO_len e2]
theorem snaps_rp {n : Nat} (ih : ∀ {v : V} {x : Vl} {d : PyData}, VlR K (hide (O ++ ι) H) ι v x → snapV n S x = some d → Rp K (hide O H) v d) : ∀ {vs : List V} {xs : List Vl} {ds : List PyData}, VlRs K (hide (O ++ ι) H) ι vs xs → mapO (snapV n S) xs = some ds → RpAll K (hide O H) vs ds
  | _, _, _, .nil, h => by cases h; exact .nil
  | _, _, _, .cons (x := x) (xs := xs) a b, h => by
    unfold mapO at h
    cases e1 : snapV n S x with
    | none => rw [e1] at h; cases h
    | some y =>
      cases e2 : mapO (snapV n S) xs with
      | none => rw [e1, e2] at h; cases h
      | some zs =>
        rw [e1, e2] at h
        cases h
        exact .cons (ih a e1) (snaps_rp ih b e2)
theorem less_hid : Sub (hide (O ++ ι) H) (hide O H) := Sub.less fun b m => List.mem_append_left _ m
theorem zip_fstO {α β : Type} : ∀ {as : List α} {bs : List β}, as.length = bs.length → (as.zip bs).map (·.1) = as ∧ (as.zip bs).map (·.2) = bs
  | [], [], _ => ⟨rfl, rfl⟩
  | [], _ :: _, h => by cases h
  | _ :: _, [], h => by cases h
  | a :: as, b :: bs, h => by
    obtain ⟨h1, h2⟩ := zip_fstO (as := as) (bs := bs) (by simpa using h)
    exact ⟨by rw [List.zip_cons_cons, List.map_cons, h1], by rw [List.zip_cons_cons, List.map_cons, h2]⟩
theorem BaseO.snap (B : BaseO K Tb O ι H S) : ∀ (n : Nat) {v : V} {x : Vl} {d : PyData}, VlR K (hide (O ++ ι) H) ι v x → snapV n S x = some d → Rp K (hide O H) v d
  | 0, _, .p _, _, r, h => by cases r with | p r => cases h; exact Rp.mono less_hid r
  | _ + 1, _, .p _, _, r, h => by cases r with | p r => cases h; exact Rp.mono less_hid r
  | 0, _, .rf _, _, _, h => by cases h
  | 0, _, .tp _, _, _, h => by cases h
  | n + 1, _, .tp xs, d, r, h => by
    cases r with
    | tp a z b =>
      unfold snapV at h
      split at h
      · rename_i ds e
        cases h
        exact .tup (less_hid.sqT a) (by rw [mapO_len e]; exact z) (snaps_rp (B.snap n) b e)
      · cases h
  | n + 1, _, .rf l, d, r, h => by
    cases r with
    | rf ha =>
      rename_i a
      have aO : a ∉ O := B.dj a (List.mem_of_getElem? ha)
      unfold snapV at h
      split at h
      · rename_i xs hc
        obtain ⟨vs, h1, z, h2⟩ := B.cell _ _ _ hc ha
        split at h
        · rename_i ds e
          cases h
          exact .lst (.of (by rw [hide_out aO]; exact h1)) (by rw [mapO_len e]; exact z) (snaps_rp (B.snap n) h2 e)
        · cases h
      · rename_i C fs hc
        obtain ⟨dx, gs, h1, h2, h3⟩ := B.cell _ _ _ hc ha
        split at h
        · rename_i ds e
          cases h
          obtain ⟨z1, z2⟩ := zip_fstO (as := fs.map (·.1)) (bs := ds) (by rw [mapO_len e, List.length_map, List.length_map])
          refine .ins (dx := dx) (fs := gs) (by rw [hide_out aO]; exact h1) ?_ ?_
          · rw [z1]; exact h2
          · rw [z2]; exact snaps_rp (B.snap n) h3 e
        · cases h
      · cases h
end
end PD
set_option Elab.async false
set_option linter.all false
set_option maxRecDepth 100000
set_option maxHeartbeats 1000000
namespace PD
open PySem PySem.Spec PyProof.Rows L2
inductive RO (α : Type) where
  | ok (a : α) (S : Store)
  | exc (e : Ex) (S : Store)
  | bad
def RO.bind {α β : Type} (x : RO α) (f : α → Store → RO β) : RO β := match x with
  | .ok a S => f a S
  | .exc e S => .exc e S
  | .bad => .bad
@[simp] theorem RO.bind_ok {α β : Type} (a : α) (S : Store) (f : α → Store → RO β) : (RO.ok a S).bind f = f a S := rfl
@[simp] theorem RO.bind_exc {α β : Type} (e : Ex) (S : Store) (f : α → Store → RO β) : (RO.exc e S : RO α).bind f = RO.exc e S := rfl
@[simp] theorem RO.bind_bad {α β : Type} (f : α → Store → RO β) : (RO.bad : RO α).bind f = RO.bad := rfl
structure StO (K : PySem.W.Frag) (Tb ι0 : List Addr) (H0 : Hp) (O ι : List Addr) (H : Hp) (σ : L2.St) (ρ : RhoO) (S : Store) : Prop where
  base : BaseO K Tb O ι H S
  tr : TrO ι0 H0 ι H
  len : σ.length = ρ.length
  slot : ∀ (i : Nat) (x : Vl), ρ[i]? = some (some x) → ∃ v, σ[i]? = some (some v) ∧ VlR K (hide (O ++ ι) H) ι v x
def PostO (K : PySem.W.Frag) (Tb O ι : List Addr) (H : Hp) {α β : Type} (Rl : List Addr → Hp → β → α → Prop) (W : Value → Option Addr → Hp → Prop) (x : RO α) (Q : β → Hp → Prop) : Prop := match x with
  | .ok d S' => ∀ v ι' H', TrO ι H ι' H' → BaseO K Tb O ι' H' S' → Rl ι' H' v d → Q v H'
  | .exc e S' => ∀ c dd ι' H', TrO ι H ι' H' → BaseO K Tb O ι' H' S' → ExR K (hide (O ++ ι') H') H' c dd e → W c dd H'
  | .bad => False
abbrev RlV (K : PySem.W.Frag) (O : List Addr) : List Addr → Hp → V → Vl → Prop := fun ι H v x => VlR K (hide (O ++ ι) H) ι v x
abbrev RlVs (K : PySem.W.Frag) (O : List Addr) : List Addr → Hp → List V → List Vl → Prop := fun ι H v x => VlRs K (hide (O ++ ι) H) ι v x
abbrev RlBo : List Addr → Hp → Bool → Bool → Prop := fun _ _ b c => b = c
abbrev EO := RhoO → Store → RO Vl
abbrev EOL := RhoO → Store → RO (List Vl)
abbrev EOB := RhoO → Store → RO Bool
section
variable {K : PySem.W.Frag} {Tb ι0 O ι ι1 : List Addr} {H0 H H1 : Hp} {S S1 : Store} {σ : L2.St} {ρ : RhoO} {α α' β β' : Type} {Rl : List Addr → Hp → β → α → Prop} {Rl' : List Addr → Hp → β' → α' → Prop} {W : Value → Option Addr → Hp → Prop}
theorem StO.step (st : StO K Tb ι0 H0 O ι H σ ρ S) (t : TrO ι H ι1 H1) (B : BaseO K Tb O ι1 H1 S1) : StO K Tb ι0 H0 O ι1 H1 σ ρ S1 where
  base := B
  tr := st.tr.trans t
  len := st.len
  slot := fun i x h => by
    obtain ⟨v, h1, h2⟩ := st.slot i x h
    exact ⟨v, h1, h2.mono t.sub t.pre⟩
theorem PostO.step {x : RO α} {Q : β → Hp → Prop} (h : PostO K Tb O ι H Rl W x Q) (t : TrO ι H ι1 H1) : PostO K Tb O ι1 H1 Rl W x Q := by
  cases x with
  | ok d S' => exact fun v ι' H' t' B r => h v ι' H' (t.trans t') B r
  | exc e S' => exact fun c dd ι' H' t' B r => h c dd ι' H' (t.trans t') B r
  | bad => exact h
theorem PostO.then {x : RO α} {f : α → Store → RO α'} {Q : β → Hp → Prop} {Q' : β' → Hp → Prop} (h : PostO K Tb O ι H Rl' W (x.bind f) Q')
    (k : ∀ a S1 b ι1 H1, TrO ι H ι1 H1 → BaseO K Tb O ι1 H1 S1 → Rl ι1 H1 b a → PostO K Tb O ι1 H1 Rl' W (f a S1) Q' → Q b H1) : PostO K Tb O ι H Rl W x Q := by
  cases x with
  | ok d S' => exact fun v ι' H' t B r => k d S' v ι' H' t B r (PostO.step (show PostO K Tb O ι H Rl' W (f d S') Q' from h) t)
  | exc e S' => exact h
  | bad => exact h
theorem PostO.mono {x : RO α} {Q Q' : β → Hp → Prop} (h : PostO K Tb O ι H Rl W x Q) (k : ∀ b H1, Q b H1 → Q' b H1) : PostO K Tb O ι H Rl W x Q' := by
  cases x with
  | ok d S' => exact fun v ι' H' t B r => k _ _ (h v ι' H' t B r)
  | exc e S' => exact h
  | bad => exact h
end
section
variable (K : PySem.W.Frag) (Tb : List Addr) (W : WX)
def tO (f : EO) : TE := fun σ H Q => ∃ ι0 H0 O ι ρ S, StO K Tb ι0 H0 O ι H σ ρ S ∧ PostO K Tb O ι H (RlV K O) (fun c d H => W c d σ H) (f ρ S) Q
def tOs (f : EOL) : TA := fun σ H Q => ∃ ι0 H0 O ι ρ S, StO K Tb ι0 H0 O ι H σ ρ S ∧ PostO K Tb O ι H (RlVs K O) (fun c d H => W c d σ H) (f ρ S) Q
def tOB (f : EOB) : TT := fun σ H Q => ∃ ι0 H0 O ι ρ S, StO K Tb ι0 H0 O ι H σ ρ S ∧ PostO K Tb O ι H RlBo (fun c d H => W c d σ H) (f ρ S) Q
end
def exOk (e : Ex) : Bool := noMuts (e.fs.map (·.2))
def oMask (f : Dn) : EO := fun ρ S => match f (maskR ρ) with
  | .ok d => .ok (.p d) S
  | .exc e => .exc e S
  | .bad => .bad
def oSnap (f : Dn) : EO := fun ρ S => match f (snapR S ρ) with
  | .ok d => if noMut d = true then .ok (.p d) S else .bad
  | .exc e => if exOk e = true then .exc e S else .bad
  | .bad => .bad
def oMaskB (f : DnB) : EOB := fun ρ S => match f (maskR ρ) with
  | .ok d => .ok d S
  | .exc e => .exc e S
  | .bad => .bad
def oSnapB (f : DnB) : EOB := fun ρ S => match f (snapR S ρ) with
  | .ok d => .ok d S
  | .exc e => if exOk e = true then .exc e S else .bad
  | .bad => .bad
/-- a new list: a new cell -/
def oMaskL (f : Dn) : EO := fun ρ S => match f (maskR ρ) with
  | .ok (.list ds) => .ok (.rf S.length) (S ++ [.lst (ds.map .p)])
  | .exc e => .exc e S
  | _ => .bad
section
variable {K : PySem.W.Frag} {Tb ι0 O ι ι1 : List Addr} {H0 H H1 : Hp} {S S1 : Store} {σ : L2.St} {ρ : RhoO} {W : WX}
theorem St0.plain {O : List Addr} {ρ : Rho} (al : Al O H) (tab : ∀ P ∈ Tb, TabC H P) (len : σ.length = ρ.length) (slot : ∀ (i : Nat) (s : Sl), ρ[i]? = some (some s) → ∃ v d, s = .d d ∧ σ[i]? = some (some v) ∧ Rp K (hide O H) v d) : St0 K Tb H O O H σ ρ where
  ext := Ext.refl H
  sub := fun _ h => h
  new := fun b h h2 => absurd h h2
  al := al
  tab := tab
  pln := fun b m n => absurd m n
  len := len
  slot := fun i s h => by
    obtain ⟨v, d, rfl, h1, h2⟩ := slot i s h
    exact ⟨v, h1, h2⟩
  inj := fun i j p s t hs _ h1 _ _ _ => by
    obtain ⟨v, d, rfl, _⟩ := slot i s h1
    exact hs.elim
theorem StO.mask (st : StO K Tb ι0 H0 O ι H σ ρ S) : St0 K Tb H (O ++ ι) (O ++ ι) H σ (maskR ρ) :=
  St0.plain st.base.alA st.base.tab (by unfold maskR; rw [List.length_map]; exact st.len) fun i s h => by
    unfold maskR at h
    rw [List.getElem?_map] at h
    cases e : ρ[i]? with
    | none => rw [e] at h; cases h
    | some x =>
      rw [e] at h
      cases x with
      | none => cases h
      | some x =>
        cases x with
        | p d =>
          cases h
          obtain ⟨v, h1, h2⟩ := st.slot i _ e
          cases h2 with
          | p r => exact ⟨v, d, rfl, h1, r⟩
        | rf l => cases h
        | tp xs => cases h
theorem StO.snap (st : StO K Tb ι0 H0 O ι H σ ρ S) : St0 K Tb H O O H σ (snapR S ρ) :=
  St0.plain st.base.al st.base.tab (by unfold snapR; rw [List.length_map]; exact st.len) fun i s h => by
    unfold snapR at h
    rw [List.getElem?_map] at h
    cases e : ρ[i]? with
    | none => rw [e] at h; cases h
    | some x =>
      rw [e] at h
      cases x with
      | none => cases h
      | some x =>
        cases e2 : snapV 6 S x with
        | none => have h : some (match snapV 6 S x with | some d => some (Sl.d d) | none => none) = some (some s) := h; rw [e2] at h; cases h
        | some d =>
          have h : some (match snapV 6 S x with | some d => some (Sl.d d) | none => none) = some (some s) := h
          rw [e2] at h
          cases h
          obtain ⟨v, h1, h2⟩ := st.slot i _ e
          exact ⟨v, d, rfl, h1, st.base.snap 6 h2 e2⟩
theorem ExR.over {cls : Value} {dd : Option Addr} {e : Ex} (B : BaseO K Tb O ι H S) (n : exOk e = true) (h : ExR K (hide O H) H cls dd e) : ExR K (hide (O ++ ι) H) H cls dd e := by
  obtain ⟨h1, h2⟩ := h
  refine ⟨h1, ?_⟩
  rcases h2 with h2 | ⟨d, fs, h3, h4, h5, h6⟩
  · exact .inl h2
  · exact .inr ⟨d, fs, h3, h4, h5, B.noMuts n h6⟩
theorem hid_new {p : Addr} : Sub (hide (p :: (O ++ ι)) H) (hide (O ++ (ι ++ [p])) H) := Sub.less fun b m => by
  rw [List.mem_append, List.mem_append] at m
  rcases m with m | m | m
  · exact List.mem_cons_of_mem _ (List.mem_append_left _ m)
  · exact List.mem_cons_of_mem _ (List.mem_append_right _ m)
  · rw [List.mem_singleton.mp m]; exact List.mem_cons_self
end
section
variable {X : Cx} {Tb : List Addr} {W : WX} {e : Expr} {f : Dn} {fb : DnB}
theorem o_mask (h : PE X e (tD X.K Tb W f)) : PE X e (tO X.K Tb W (oMask f)) := h.by fun σ H Q ⟨ι0, H0, O, ι, ρ, S, st, q⟩ => ⟨H, O ++ ι, O ++ ι, maskR ρ, st.mask, by
  unfold oMask at q
  cases x : f (maskR ρ) with
  | ok d => rw [x] at q; exact fun v H' e r => q v ι H' (.ext e) (st.base.step e) (.p r)
  | exc y => rw [x] at q; exact fun c d H' e r => q c d ι H' (.ext e) (st.base.step e) r
  | bad => rw [x] at q; exact q⟩
theorem o_snap (h : PE X e (tD X.K Tb W f)) : PE X e (tO X.K Tb W (oSnap f)) := h.by fun σ H Q ⟨ι0, H0, O, ι, ρ, S, st, q⟩ => ⟨H, O, O, snapR S ρ, st.snap, by
  unfold oSnap at q
  cases x : f (snapR S ρ) with
  | ok d =>
    rw [x] at q
    dsimp only at q
    split at q
    · rename_i n
      exact fun v H' e r => q v ι H' (.ext e) (st.base.step e) (.p ((st.base.step e).noMut n r))
    · exact q.elim
  | exc y =>
    rw [x] at q
    dsimp only at q
    split at q
    · rename_i n
      exact fun c d H' e r => q c d ι H' (.ext e) (st.base.step e) (r.over (st.base.step e) n)
    · exact q.elim
  | bad => rw [x] at q; exact q⟩
theorem o_maskB (h : PT X e (tDT X.K Tb W fb)) : PT X e (tOB X.K Tb W (oMaskB fb)) := h.by fun σ H Q ⟨ι0, H0, O, ι, ρ, S, st, q⟩ => ⟨H, O ++ ι, O ++ ι, maskR ρ, st.mask, by
  unfold oMaskB at q
  cases x : fb (maskR ρ) with
  | ok d => rw [x] at q; exact fun v H' e r => q v ι H' (.ext e) (st.base.step e) r
  | exc y => rw [x] at q; exact fun c d H' e r => q c d ι H' (.ext e) (st.base.step e) r
  | bad => rw [x] at q; exact q⟩
theorem o_snapB (h : PT X e (tDT X.K Tb W fb)) : PT X e (tOB X.K Tb W (oSnapB fb)) := h.by fun σ H Q ⟨ι0, H0, O, ι, ρ, S, st, q⟩ => ⟨H, O, O, snapR S ρ, st.snap, by
  unfold oSnapB at q
  cases x : fb (snapR S ρ) with
  | ok d => rw [x] at q; exact fun v H' e r => q v ι H' (.ext e) (st.base.step e) r
  | exc y =>
    rw [x] at q
    dsimp only at q
    split at q
    · rename_i n
      exact fun c d H' e r => q c d ι H' (.ext e) (st.base.step e) (r.over (st.base.step e) n)
    · exact q.elim
  | bad => rw [x] at q; exact q⟩
theorem o_maskL (h : PE X e (tN X.K Tb W f)) : PE X e (tO X.K Tb W (oMaskL f)) := h.by fun σ H Q ⟨ι0, H0, O, ι, ρ, S, st, q⟩ => ⟨H, O ++ ι, O ++ ι, maskR ρ, st.mask, by
  unfold oMaskL at q
  cases x : f (maskR ρ) with
  | ok d =>
    rw [x] at q
    cases d with
    | list ds =>
      intro p vs H' ex n hp z r
      have c : CellR X.K (hide (O ++ (ι ++ [p])) H') H' (ι ++ [p]) p (.lst (ds.map .p)) := ⟨vs, hp, by rw [List.length_map]; exact z, VlRs.ofRp (r.mono hid_new)⟩
      obtain ⟨B, t⟩ := st.base.more ex n c
      exact q (.ref p) _ H' t B (.rf (by rw [← st.base.len]; simp))
    | _ => exact q.elim
  | exc y => rw [x] at q; exact fun c d H' e r => q c d ι H' (.ext e) (st.base.step e) r
  | bad => rw [x] at q; exact q⟩
end
def oVar (i : Nat) : EO := fun ρ S => match ρ[i]? with
  | some (some x) => .ok x S
  | _ => .bad
def fldV (C : Addr) (f : Str) (x : Vl) (S : Store) : Option Vl := match x with
  | .rf l => (match S[l]? with
    | some (.ins C' fs) => if C' = C then fs.lookup f else none
    | _ => none)
  | _ => none
def oFld (C : Addr) (f : Str) (g : EO) : EO := fun ρ S => (g ρ S).bind fun x S1 => match fldV C f x S1 with
  | some y => .ok y S1
  | none => .bad
def ixV (x y : Vl) (S : Store) : Option Vl := match x, y with
  | .rf l, .p (.int k) => (match S[l]? with
    | some (.lst xs) => atI xs k
    | _ => none)
  | .tp xs, .p (.int k) => atI xs k
  | _, _ => none
def oIxO (g h : EO) : EO := fun ρ S => (g ρ S).bind fun x S1 => (h ρ S1).bind fun y S2 => match ixV x y S2 with
  | some z => .ok z S2
  | none => .bad
def oNil : EOL := fun _ S => .ok [] S
def oCons (g : EO) (h : EOL) : EOL := fun ρ S => (g ρ S).bind fun x S1 => (h ρ S1).bind fun xs S2 => .ok (x :: xs) S2
/-- facts of a class of one's own -/
structure ClsF (K : PySem.W.Frag) (C : Addr) (fs : List Str) : Prop where
  cls : Cls K C
  no : ∀ f ∈ fs, NoAttr K C f
section
variable {K : PySem.W.Frag} {Tb ι0 O ι ι1 : List Addr} {H0 H H1 : Hp} {S S1 : Store} {σ : L2.St} {ρ : RhoO} {G : Hp}
theorem VlRs.look (f : Str) : ∀ {gs : List (Str × V)} {fs : List (Str × Vl)} {y : Vl}, gs.map (·.1) = fs.map (·.1) → VlRs K G ι (gs.map (·.2)) (fs.map (·.2)) → fs.lookup f = some y → ∃ v, gs.lookup f = some v ∧ VlR K G ι v y
  | [], [], _, _, _, h => by cases h
  | [], _ :: _, _, e, _, _ => by cases e
  | _ :: _, [], _, e, _, _ => by cases e
  | (a, v) :: gs, (b, x) :: fs, y, e, r, h => by
    rw [List.map_cons, List.map_cons] at e r
    injection e with e1 e2
    have e1 : a = b := e1
    subst e1
    cases r with
    | cons r1 r2 =>
      rw [List.lookup_cons] at h ⊢
      cases q : f == a with
      | true => rw [q] at h; cases h; exact ⟨v, rfl, r1⟩
      | false => rw [q] at h; exact VlRs.look f e2 r2 h
theorem atI_vl {vs : List V} {xs : List Vl} {i : Int} {x : Vl} (r : VlRs K G ι vs xs) (h : atI xs i = some x) : ∃ v, atI vs i = some v ∧ VlR K G ι v x := by
  unfold atI at h ⊢
  rw [r.length]
  cases e : ixN xs.length i with
  | none => rw [e] at h; cases h
  | some k => rw [e] at h; exact r.get h
end
section
variable {X : Cx} {Tb : List Addr} {W : WX} {e a b : Expr} {g h : EO} {gl : EOL} {es : List Expr} {pos : Pos} {x : Str}
theorem o_var (i : Nat) (hN : X.N[i]? = some x := by rfl) (hv : Vis X.env.scope x := by first | exact Or.inl rfl | exact Or.inr (Or.inl rfl) | exact Or.inr (Or.inr rfl)) (hd : (x == ("__debug__" : Str)) = false := by decide)
    (hcd : (x == ("__classdict__" : Str)) = false := by decide) : PE X (.Name x pos) (tO X.K Tb W (oVar i)) := (pv i hN hv hd hcd).by fun σ H Q ⟨ι0, H0, O, ι, ρ, S, st, q⟩ => by
  unfold oVar at q
  split at q
  · rename_i x e
    obtain ⟨v, h1, h2⟩ := st.slot i _ e
    exact ⟨v, h1, q v ι H (.refl _ _) st.base h2⟩
  · exact q.elim
theorem o_fld {C : Addr} {fs : List Str} {f : Str} (F : ClsF X.K C fs) (hf : f ∈ fs) (hg : PE X e (tO X.K Tb W g)) (hb : attributeBase e f X.env (eval e X.env) = eval e X.env := by rfl) : PE X (.Attribute e f pos) (tO X.K Tb W (oFld C f g)) :=
  (pe_fld hg hb).by fun σ H Q ⟨ι0, H0, O, ι, ρ, S, st, q⟩ => ⟨ι0, H0, O, ι, ρ, S, st, PostO.then q fun y S1 v ι1 H1 t B r k => by
    cases y with
    | p d => exact k.elim
    | tp xs => exact k.elim
    | rf l =>
      cases r with
      | rf ha =>
        rename_i a
        cases y : fldV C f (.rf l) S1 with
        | none => rw [y] at k; exact k.elim
        | some z =>
          rw [y] at k
          unfold fldV at y
          dsimp only at y
          split at y
          · rename_i C' fl hc
            split at y
            · rename_i ec
              subst ec
              obtain ⟨dx, gs, h1, h2, h3⟩ := B.cell _ _ _ hc ha
              obtain ⟨w, h4, h5⟩ := VlRs.look f h2 h3 y
              exact ⟨a, _, dx, gs, w, rfl, h1, F.cls, F.no f hf, h4, k w ι1 H1 (.refl _ _) B h5⟩
            · cases y
          · cases y⟩
theorem o_ix (ha : PE X a (tO X.K Tb W g)) (hb : PE X b (tO X.K Tb W h)) (hs : PlainIx b := by intro _ _; rfl) : PE X (.Subscript a b pos) (tO X.K Tb W (oIxO g h)) :=
  (pe_ix ix_seq ha hb hs).by fun σ H Q ⟨ι0, H0, O, ι, ρ, S, st, q⟩ => ⟨ι0, H0, O, ι, ρ, S, st, PostO.then q fun y S1 v ι1 H1 t B r k => ⟨ι0, H0, O, ι1, ρ, S1, st.step t B, PostO.then k fun y2 S2 v2 ι2 H2 t2 B2 r2 k2 => by
    have r := r.mono t2.sub t2.pre
    cases z : ixV y y2 S2 with
    | none => rw [z] at k2; exact k2.elim
    | some w =>
      rw [z] at k2
      unfold ixV at z
      split at z
      · rename_i l kk
        cases r2 with
        | p r2 =>
          cases r2
          cases r with
          | rf hl =>
            split at z
            · rename_i xs hc
              obtain ⟨vs, h1, _, h2⟩ := B2.cell _ _ _ hc hl
              obtain ⟨u, h3, h4⟩ := atI_vl h2 z
              exact .inl ⟨_, vs, _, u, rfl, rfl, .of h1, h3, k2 u ι2 H2 (.refl _ _) B2 h4⟩
            · cases z
      · rename_i xs kk
        cases r2 with
        | p r2 =>
          cases r2
          cases r with
          | tp h1 _ h2 =>
            obtain ⟨u, h3, h4⟩ := atI_vl h2 z
            exact .inr (.inl ⟨_, _, _, u, rfl, rfl, Sub.unhide.sqT h1, h3, k2 u ι2 H2 (.refl _ _) B2 h4⟩)
      · cases z⟩⟩
theorem oa_nil : PA X [] (tOs X.K Tb W oNil) := pa_nil.by fun σ H Q ⟨_, _, O, ι, _, S, st, h⟩ => h [] ι H (.refl _ _) st.base .nil
theorem oa_cons (ha : PE X e (tO X.K Tb W g)) (hr : PA X es (tOs X.K Tb W gl)) (hs : starEach (e :: es) X.env = (false, eval e X.env) :: starEach es X.env := by rfl) : PA X (e :: es) (tOs X.K Tb W (oCons g gl)) :=
  (pa_cons ha hr hs).by fun σ H Q ⟨ι0, H0, O, ι, ρ, S, st, q⟩ => ⟨ι0, H0, O, ι, ρ, S, st, PostO.then q fun y S1 v ι1 H1 t B r k => ⟨ι0, H0, O, ι1, ρ, S1, st.step t B, PostO.then k fun ys S2 vs ι2 H2 t2 B2 r2 k2 =>
    k2 _ ι2 H2 (.refl _ _) B2 (.cons (r.mono t2.sub t2.pre) r2)⟩⟩
end
end PD
set_option Elab.async false
set_option linter.all false
set_option maxRecDepth 100000
set_option maxHeartbeats 1000000
namespace PD
open PySem PySem.Spec PyProof.Rows L2
abbrev MO := List Vl → Store → RO Vl
def spO (K : PySem.W.Frag) (Tb : List Addr) (m : MO) : Sp := fun vs H Q E => ∃ O ι S xs, BaseO K Tb O ι H S ∧ VlRs K (hide (O ++ ι) H) ι vs xs ∧ PostO K Tb O ι H (RlV K O) E (m xs S) Q
def oArg (m : MO) (g : EOL) : EO := fun ρ S => (g ρ S).bind m
/-- may o be the receiver of m, which its class C has? -/
def isRecv (C : Addr) (m : Str) (x : Vl) (S : Store) : Bool := match x with
  | .rf l => (match S[l]? with
    | some (.ins C' fs) => decide (C' = C) && (fs.lookup m).isNone
    | _ => false)
  | _ => false
def oMeth (C : Addr) (nm : Str) (m : MO) (g : EO) (h : EOL) : EO := fun ρ S => (g ρ S).bind fun x S1 => if isRecv C nm x S1 = true then (h ρ S1).bind fun xs S2 => m (x :: xs) S2 else .bad
def oMake (C : Addr) (m : MO) (h : EOL) : EO := fun ρ S => (h ρ S).bind fun xs S1 => match m (.rf S1.length :: xs) (S1 ++ [.ins C []]) with
  | .ok (.p .none) S2 => .ok (.rf S1.length) S2
  | _ => .bad
section
variable {X : Cx} {CX : CXT} {k : Nat} {f C : Addr} {fd : FuncData} {ps : List Str} {sp : Sp} {dvs : List V} {ds : List Value} {E : L2.St → XK} {x m : Str} {p pos apos : Pos} {e o : Expr} {es : List Expr} {ta : TE} {t : TA}
def tMethSD (C : Addr) (m : Str) (sp : Sp) (dvs : List V) (E : L2.St → XK) (ta : TE) (t : TA) : TE := fun σ H Q => ta σ H fun x H1 => ∃ a dx fs, x = .ref a ∧ H1 a = some (.ins C dx fs) ∧ fs.lookup m = none ∧
  t σ H1 fun vs H2 => sp (x :: (vs ++ dvs)) H2 Q (E σ)
theorem pe_methSD {pl : Sem Bool} (he : PE X o ta) (c : Cls X.K C) (hm : Meth X.K C m f) (F : FnOk X.prog X.w X.K X.mg X.base CX k f fd ps sp) (hr : Room k X.A) (hb : Binds X.K fd ps ds) (hd : Vals dvs ds) (hx : ∀ σ, PassesAt CX X σ (E σ)) (ha : PA X (e :: es) t)
    (hst : starEach (e :: es) X.env = (false, eval e X.env) :: starEach es X.env := by rfl) (hpl : (backTo pos (starEach es X.env)).any (·.1) = false := by rfl)
    (ht : eval (.Call (.Attribute o m apos) (e :: es) [] pos) X.env = (do
      let ov ← eval o X.env
      standAt apos.atName
      let (f, first) ← holding [ov] (getMethod ov m pl)
      callWith pos f first (backTo pos (starEach (e :: es) X.env)) (backToKw pos (keywordEach [] X.env))) := by rfl) :
    PE X (.Call (.Attribute o m apos) (e :: es) [] pos) (tMethSD C m sp dvs E ta t) := by
  refine ⟨fun pins s σ H Q I h => ?_⟩
  refine PySem.W.methodCall_KW (pl := pl) (thn (he.run pins s σ H _ I h) fun u s1 ⟨x, H1, I1, rx, a, dx, fs, ex, ea, l, q⟩ => ?_) ht
  subst ex
  obtain rfl : u = Value.ref a := rx
  refine getmeth_ok I1 ea c hm l ?_
  refine PySem.W.callWith_K (first := [.ref a]) (h₀ := X.base) I.ok.mod.kin hm.kp (thn (ha.run pos pins s1 σ H1 _ I1 q) fun us s2 ⟨vs, H2, I2, r, q2⟩ => ⟨I2.kIn, ?_⟩) hst hpl
  exact run_fnSD (us := .ref a :: us) (vs := .ref a :: vs) F hr hb hd (hx σ) I2 (.cons rfl r) q2
end
theorem lookup_none {α β : Type} (m : Str) : ∀ {gs : List (Str × α)} {fs : List (Str × β)}, gs.map (·.1) = fs.map (·.1) → fs.lookup m = none → gs.lookup m = none
  | [], [], _, _ => rfl
  | [], _ :: _, e, _ => by cases e
  | _ :: _, [], e, _ => by cases e
  | (a, v) :: gs, (b, x) :: fs, e, h => by
    rw [List.map_cons, List.map_cons] at e
    injection e with e1 e2
    have e1 : a = b := e1
    subst e1
    rw [List.lookup_cons] at h ⊢
    cases q : m == a with
    | true => rw [q] at h; cases h
    | false => rw [q] at h; exact lookup_none m e2 h
section
variable {X : Cx} {Tb : List Addr} {W : WX} {k : Nat} {f C : Addr} {fd : FuncData} {ps : List Str} {m : MO} {x nm : Str} {p pos apos : Pos} {e o : Expr} {es : List Expr} {g : EO} {gl : EOL} {dvs : List V} {ds : List Value} {dds : List PyData}
/-- the values of defaults, appended -/
def oDfl (dds : List PyData) (h : EOL) : EOL := fun ρ S => (h ρ S).bind fun xs S1 => .ok (xs ++ dds.map .p) S1
theorem o_call (F : FnOk X.prog X.w X.K X.mg X.base (L2N.CX X.prog X.w) k f fd ps (spO X.K Tb m)) (hr : Room k X.A) (hg : Gl X x) (hm : X.mg x = some (.ref f)) (hk : PySem.W.keepIn X.K (.ref f) = true) (hb : Binds X.K fd ps []) (hx : ∀ σ, PassesAt (L2N.CX X.prog X.w) X σ (L2.WE W σ))
    (ha : PA X (e :: es) (tOs X.K Tb W gl)) (hdb : (x == ("__debug__" : Str)) = false := by decide) (he : starEach (e :: es) X.env = (false, eval e X.env) :: starEach es X.env := by rfl) (hpl : (backTo pos (starEach es X.env)).any (·.1) = false := by rfl) :
    PE X (.Call (.Name x p) (e :: es) [] pos) (tO X.K Tb W (oArg m gl)) := (pe_callS F hr hg hm hk hb hx ha hdb he hpl).by fun σ H Q ⟨ι0, H0, O, ι, ρ, S, st, q⟩ => ⟨ι0, H0, O, ι, ρ, S, st, by
  refine PostO.then q fun xs S1 vs ι1 H1 t B r k => ?_
  exact ⟨O, ι1, S1, xs, B, r, k⟩⟩
theorem oRecv {K : PySem.W.Frag} {O ι : List Addr} {H : Hp} {S : Store} {y : Vl} {v : V} (B : BaseO K Tb O ι H S) (r : VlR K (hide (O ++ ι) H) ι v y) (h : isRecv C nm y S = true) : ∃ a dx fs, v = .ref a ∧ H a = some (.ins C dx fs) ∧ fs.lookup nm = none := by
  unfold isRecv at h
  split at h
  · rename_i l
    cases r with
    | rf ha =>
      split at h
      · rename_i C' fs hc
        rw [Bool.and_eq_true, decide_eq_true_eq] at h
        obtain ⟨rfl, h2⟩ := h
        obtain ⟨dx, gs, h3, h4, _⟩ := B.cell _ _ _ hc ha
        exact ⟨_, dx, gs, rfl, h3, lookup_none nm h4 (Option.isNone_iff_eq_none.mp h2)⟩
      · cases h
  · cases h
theorem o_meth (c : Cls X.K C) (hm : Meth X.K C nm f) (F : FnOk X.prog X.w X.K X.mg X.base (L2N.CX X.prog X.w) k f fd ps (spO X.K Tb m)) (hr : Room k X.A) (hb : Binds X.K fd ps ds) (hd : Vals dvs ds) (hdv : ∀ G, RpAll X.K G dvs dds) (hx : ∀ σ, PassesAt (L2N.CX X.prog X.w) X σ (L2.WE W σ))
    (ho : PE X o (tO X.K Tb W g)) (ha : PA X (e :: es) (tOs X.K Tb W gl)) {pl : Sem Bool}
    (hst : starEach (e :: es) X.env = (false, eval e X.env) :: starEach es X.env := by rfl) (hpl : (backTo pos (starEach es X.env)).any (·.1) = false := by rfl)
    (ht : eval (.Call (.Attribute o nm apos) (e :: es) [] pos) X.env = (do
      let ov ← eval o X.env
      standAt apos.atName
      let (f, first) ← holding [ov] (getMethod ov nm pl)
      callWith pos f first (backTo pos (starEach (e :: es) X.env)) (backToKw pos (keywordEach [] X.env))) := by rfl) :
    PE X (.Call (.Attribute o nm apos) (e :: es) [] pos) (tO X.K Tb W (oMeth C nm m g (oDfl dds gl))) := (pe_methSD (E := fun σ => L2.WE W σ) ho c hm F hr hb hd hx ha hst hpl ht).by fun σ H Q ⟨ι0, H0, O, ι, ρ, S, st, q⟩ => ⟨ι0, H0, O, ι, ρ, S, st, by
  refine PostO.then q fun y S1 v ι1 H1 t B r k => ?_
  split at k
  · rename_i hy
    obtain ⟨a, dx, fs, rfl, h1, h2⟩ := oRecv B r hy
    refine ⟨a, dx, fs, rfl, h1, h2, ι0, H0, O, ι1, ρ, S1, st.step t B, ?_⟩
    have k : PostO X.K Tb O ι1 H1 (RlV X.K O) (fun c d H => W c d σ H) (((gl ρ S1).bind fun xs S2 => .ok (xs ++ dds.map .p) S2).bind fun xs S2 => m (y :: xs) S2) Q := k
    rw [show (((gl ρ S1).bind fun xs S2 => RO.ok (xs ++ dds.map .p) S2).bind fun xs S2 => m (y :: xs) S2) = (gl ρ S1).bind fun xs S2 => m (y :: (xs ++ dds.map .p)) S2 by cases gl ρ S1 <;> rfl] at k
    refine PostO.then k fun xs S2 vs ι2 H2 t2 B2 r2 k2 => ?_
    exact ⟨O, ι2, S2, y :: (xs ++ dds.map .p), B2, .cons (r.mono t2.sub t2.pre) (r2.append (VlRs.ofRp (hdv _))), k2⟩
  · exact k.elim⟩
theorem ext_two {H : Hp} {x dx : Addr} {o u : HO} (h1 : H x = none) (h2 : H dx = none) (n : dx ≠ x) : Ext H (upd (upd H dx u) x o) := (Ext.new h2).trans (Ext.new (by rw [upd_ne n.symm]; exact h1))
theorem made_base {K : PySem.W.Frag} {O ι : List Addr} {H : Hp} {S : Store} (B : BaseO K Tb O ι H S) {x dx : Addr} (h1 : H x = none) (h2 : H dx = none) (n : dx ≠ x) :
    BaseO K Tb O (ι ++ [x]) (upd (upd H dx (.own x)) x (.ins C dx [])) (S ++ [.ins C []]) ∧ TrO ι H (ι ++ [x]) (upd (upd H dx (.own x)) x (.ins C dx [])) :=
  B.more (ext_two h1 h2 n) h1 ⟨dx, [], upd_same, rfl, .nil⟩
theorem make_read {K : PySem.W.Frag} {σ : L2.St} {H : Hp} {Q : VK} {ta : TA} {ι0 O ι : List Addr} {H0 : Hp} {ρ : RhoO} {S : Store} (B : BaseO K Tb O ι H S) {vs : List V} {xs : List Vl} (r : VlRs K (hide (O ++ ι) H) ι vs xs)
    (k : PostO K Tb O ι H (RlV K O) (fun c d H => W c d σ H) (match m (.rf S.length :: xs) (S ++ [.ins C []]) with | .ok (.p .none) S2 => RO.ok (Vl.rf S.length) S2 | _ => .bad) Q) :
    ∀ x dx, H x = none → H dx = none → dx ≠ x → spO K Tb m (.ref x :: (vs ++ [])) (upd (upd H dx (.own x)) x (.ins C dx [])) (fun v H2 => v = .non ∧ Q (.ref x) H2) (fun _ _ _ => False) := by
  intro x dx h1 h2 n
  obtain ⟨B1, t1⟩ := made_base (C := C) B h1 h2 n
  have gx : (ι ++ [x])[S.length]? = some x := by rw [← B.len]; simp
  refine ⟨O, ι ++ [x], S ++ [.ins C []], .rf S.length :: xs, B1, .cons (.rf gx) (by rw [List.append_nil]; exact r.mono t1.sub t1.pre), ?_⟩
  cases q : m (.rf S.length :: xs) (S ++ [.ins C []]) with
  | bad => rw [q] at k; exact k.elim
  | exc e S2 => rw [q] at k; exact k.elim
  | ok y S2 =>
    rw [q] at k
    cases y with
    | rf l => exact k.elim
    | tp l => exact k.elim
    | p d =>
      cases d with
      | none =>
        intro v ι2 H2 t2 B2 r2
        cases r2 with
        | p r2 =>
          cases r2
          exact ⟨rfl, k (.ref x) ι2 H2 (t1.trans t2) B2 (.rf (pre_get t2.pre gx))⟩
      | _ => exact k.elim
theorem o_make (M : Mk X.K C f) (F : FnOk X.prog X.w X.K X.mg X.base (L2N.CX X.prog X.w) k f fd ps (spO X.K Tb m)) (hr : Room (k + 1) X.A) (hg : Gl X x) (hm : X.mg x = some (.ref C)) (hb : Binds X.K fd ps []) (hx : Passes (L2N.CX X.prog X.w) X (fun _ _ _ => False))
    (ha : PA X (e :: es) (tOs X.K Tb W gl)) (hdb : (x == ("__debug__" : Str)) = false := by decide) (he : starEach (e :: es) X.env = (false, eval e X.env) :: starEach es X.env := by rfl) (hpl : (backTo pos (starEach es X.env)).any (·.1) = false := by rfl) :
    PE X (.Call (.Name x p) (e :: es) [] pos) (tO X.K Tb W (oMake C m gl)) := (pe_make M F hr hg hm hb .nil hx ha hdb he hpl).by fun σ H Q ⟨ι0, H0, O, ι, ρ, S, st, q⟩ => ⟨ι0, H0, O, ι, ρ, S, st, by
  refine PostO.then q fun xs S1 vs ι1 H1 t B r k => ?_
  exact make_read (ta := fun _ _ _ => True) (ι0 := ι0) (H0 := H0) (ρ := ρ) B r k⟩
end
def asFs : List (PyData × PyData) → Option (List (Str × PyData))
  | [] => some []
  | (.str n, v) :: l => match asFs l with
    | some r => some ((n, v) :: r)
    | none => none
  | _ => none
def asOb : PyData → Option (Addr × List (Str × PyData))
  | .dict ((.none, .int c) :: l) => (match asFs l with
    | some fs => some (c.toNat, fs)
    | none => none)
  | _ => none
theorem asFs_map : ∀ fs : List (Str × PyData), asFs (fs.map fun x => (PyData.str x.1, x.2)) = some fs
  | [] => rfl
  | x :: fs => by rw [List.map_cons, asFs, asFs_map fs]
@[simp] theorem asOb_obD (C : Addr) (fs : List (Str × PyData)) : asOb (obD C fs) = some (C, fs) := by
  show (match asFs (fs.map fun x => (PyData.str x.1, x.2)) with | some fs => some (((C : Int)).toNat, fs) | none => none) = _
  rw [asFs_map]
  rfl
section
variable {K : PySem.W.Frag} {G H : Hp} {O : List Addr}
theorem asOb_rp {v : V} {d : PyData} {C : Addr} {fs : List (Str × PyData)} (r : Rp K G v d) (h : asOb d = some (C, fs)) : ∃ a dx gs, v = .ref a ∧ G a = some (.ins C dx gs) ∧ gs.map (·.1) = fs.map (·.1) ∧ RpAll K G (gs.map (·.2)) (fs.map (·.2)) := by
  cases r with
  | non => cases h
  | bl b => cases h
  | int i => cases h
  | str x => cases h
  | lst _ _ _ => cases h
  | tup _ _ _ => cases h
  | @dct a ep xs h1 h2 =>
    cases xs with
    | nil => cases h
    | cons x xs => cases h
  | dk _ _ _ => cases h
  | ins h1 h2 h3 =>
    rw [asOb_obD] at h
    cases h
    exact ⟨_, _, _, rfl, h1, h2, h3⟩
theorem RpAll.look (f : Str) : ∀ {gs : List (Str × V)} {fs : List (Str × PyData)} {y : PyData}, gs.map (·.1) = fs.map (·.1) → RpAll K G (gs.map (·.2)) (fs.map (·.2)) → fs.lookup f = some y → ∃ v, gs.lookup f = some v ∧ Rp K G v y
  | [], [], _, _, _, h => by cases h
  | [], _ :: _, _, e, _, _ => by cases e
  | _ :: _, [], _, e, _, _ => by cases e
  | (a, v) :: gs, (b, x) :: fs, y, e, r, h => by
    rw [List.map_cons, List.map_cons] at e r
    injection e with e1 e2
    have e1 : a = b := e1
    subst e1
    cases r with
    | cons r1 r2 =>
      rw [List.lookup_cons] at h ⊢
      cases q : f == a with
      | true => rw [q] at h; cases h; exact ⟨v, rfl, r1⟩
      | false => rw [q] at h; exact RpAll.look f e2 r2 h
end
def fldD (C : Addr) (f : Str) (o : PyData) : R PyData := match asOb o with
  | some (C', fs) => if C' = C then (match fs.lookup f with | some y => .ok y | none => .bad) else .bad
  | none => .bad
/-- e.f -/
def dAt (C : Addr) (f : Str) (g : Dn) : Dn := fun ρ => g ρ >>= fldD C f
def recvD (C : Addr) (m : Str) (o : PyData) : Bool := match asOb o with
  | some (C', fs) => decide (C' = C) && (fs.lookup m).isNone
  | none => false
/-- e.m(..) -/
def dMethD (C : Addr) (nm : Str) (m : List PyData → R PyData) (g : Dn) (gl : DnL) : Dn := fun ρ => g ρ >>= fun o => if recvD C nm o = true then gl ρ >>= fun ds => m (o :: ds) else .bad
section
variable {X : Cx} {Tb : List Addr} {W : WX} {k : Nat} {f C : Addr} {fd : FuncData} {ps : List Str} {m : List PyData → R PyData} {nm : Str} {p pos apos : Pos} {e o : Expr} {es : List Expr} {g : Dn} {gl : DnL}
theorem e_at {fs : List Str} {f : Str} (F : ClsF X.K C fs) (hf : f ∈ fs) (hg : PE X e (tD X.K Tb W g)) (hb : attributeBase e f X.env (eval e X.env) = eval e X.env := by rfl) : PE X (.Attribute e f pos) (tD X.K Tb W (dAt C f g)) :=
  (pe_fld hg hb).by fun σ H Q ⟨H0, O0, O, ρ, st, h⟩ => ⟨H0, O0, O, ρ, st, Post.then h fun d v H1 e1 r k => by
    unfold fldD at k
    split at k
    · rename_i C' fl ho
      split at k
      · rename_i ec
        subst ec
        obtain ⟨a, dx, gs, rfl, h1, h2, h3⟩ := asOb_rp r ho
        split at k
        · rename_i y hy
          obtain ⟨w, h4, h5⟩ := RpAll.look f h2 h3 hy
          exact ⟨a, _, dx, gs, w, rfl, (hide_some h1).2, F.cls, F.no f hf, h4, k w H1 (Ext.refl _) h5⟩
        · exact k.elim
      · exact k.elim
    · exact k.elim⟩
theorem recv_rp {K : PySem.W.Frag} {O : List Addr} {H : Hp} {v : V} {d : PyData} (r : Rp K (hide O H) v d) (h : recvD C nm d = true) : ∃ a dx fs, v = .ref a ∧ H a = some (.ins C dx fs) ∧ fs.lookup nm = none := by
  unfold recvD at h
  split at h
  · rename_i C' fs ho
    rw [Bool.and_eq_true, decide_eq_true_eq] at h
    obtain ⟨rfl, h2⟩ := h
    obtain ⟨a, dx, gs, rfl, h3, h4, _⟩ := asOb_rp r ho
    exact ⟨a, dx, gs, rfl, (hide_some h3).2, lookup_none nm h4 (Option.isNone_iff_eq_none.mp h2)⟩
  · cases h
theorem e_meth (c : Cls X.K C) (hm : Meth X.K C nm f) (F : FnOk X.prog X.w X.K X.mg X.base (L2N.CX X.prog X.w) k f fd ps (spD X.K Tb m)) (hr : Room k X.A) (hb : Binds X.K fd ps []) (hx : ∀ σ, PassesAt (L2N.CX X.prog X.w) X σ (L2.WE W σ))
    (ho : PE X o (tD X.K Tb W g)) (ha : PA X (e :: es) (tDs X.K Tb W gl)) {pl : Sem Bool}
    (hst : starEach (e :: es) X.env = (false, eval e X.env) :: starEach es X.env := by rfl) (hpl : (backTo pos (starEach es X.env)).any (·.1) = false := by rfl)
    (ht : eval (.Call (.Attribute o nm apos) (e :: es) [] pos) X.env = (do
      let ov ← eval o X.env
      standAt apos.atName
      let (f, first) ← holding [ov] (getMethod ov nm pl)
      callWith pos f first (backTo pos (starEach (e :: es) X.env)) (backToKw pos (keywordEach [] X.env))) := by rfl) :
    PE X (.Call (.Attribute o nm apos) (e :: es) [] pos) (tD X.K Tb W (dMethD C nm m g gl)) := (pe_methSD (E := fun σ => L2.WE W σ) ho c hm F hr hb .nil hx ha hst hpl ht).by fun σ H Q ⟨H0, O0, O, ρ, st, h⟩ => ⟨H0, O0, O, ρ, st, by
  refine Post.then h fun d v H1 e1 r k => ?_
  split at k
  · rename_i hy
    obtain ⟨a, dx, fs, rfl, h1, h2⟩ := recv_rp r hy
    refine ⟨a, dx, fs, rfl, h1, h2, H0, O0, O, ρ, st.step e1, Post.then k fun ds vs H2 e2 r2 k2 => ?_⟩
    rw [List.append_nil]
    exact ⟨O, d :: ds, ((st.step e1).step e2).al, ((st.step e1).step e2).tab, .cons (Rp.mono (Sub.hide e2.keep) r) r2, k2⟩
  · exact k.elim⟩
end
end PD
set_option Elab.async false
set_option linter.all false
set_option maxRecDepth 100000
set_option maxHeartbeats 1000000
namespace PD
open PySem PySem.Spec PyProof.Rows L2
mutual
def Tg.setO : Tg → Vl → RhoO → Option RhoO
  | .nm i, x, ρ => some (ρ.set i (some x))
  | .tp ts, x, ρ => match x with
    | .p (.tuple ds) => Tg.setsO ts (ds.map .p) ρ
    | .tp xs => Tg.setsO ts xs ρ
    | _ => none
def Tg.setsO : List Tg → List Vl → RhoO → Option RhoO
  | [], [], ρ => some ρ
  | t :: ts, d :: ds, ρ => (Tg.setO t d ρ).bind fun ρ' => Tg.setsO ts ds ρ'
  | _, _, _ => none
end
theorem setsO_len : ∀ (ts : List Tg) (xs : List Vl) (ρ ρ' : RhoO), Tg.setsO ts xs ρ = some ρ' → xs.length = ts.length
  | [], [], _, _, _ => rfl
  | [], _ :: _, _, _, h => by unfold Tg.setsO at h; cases h
  | _ :: _, [], _, _, h => by unfold Tg.setsO at h; cases h
  | t :: ts, x :: xs, ρ, ρ', h => by
    unfold Tg.setsO at h
    cases e : Tg.setO t x ρ with
    | none => rw [e] at h; cases h
    | some ρ1 => rw [e] at h; rw [List.length_cons, List.length_cons, setsO_len ts xs ρ1 ρ' h]
def tGO (K : PySem.W.Frag) (Tb : List Addr) (t : Tg) : TG := fun v σ H Q => ∃ ι0 H0 O ι ρ S ρ' x, StO K Tb ι0 H0 O ι H σ ρ S ∧ VlR K (hide (O ++ ι) H) ι v x ∧ t.setO x ρ = some ρ' ∧ ∀ σ', StO K Tb ι0 H0 O ι H σ' ρ' S → Q σ' H
def tGsO (K : PySem.W.Frag) (Tb : List Addr) (ts : List Tg) : TGs := fun vs σ H Q => ∃ ι0 H0 O ι ρ S ρ' xs, StO K Tb ι0 H0 O ι H σ ρ S ∧ VlRs K (hide (O ++ ι) H) ι vs xs ∧ Tg.setsO ts xs ρ = some ρ' ∧ ∀ σ', StO K Tb ι0 H0 O ι H σ' ρ' S → Q σ' H
theorem StO.set {K : PySem.W.Frag} {Tb ι0 O ι : List Addr} {H0 H : Hp} {S : Store} {σ : L2.St} {ρ : RhoO} {i : Nat} {v : V} {x : Vl} (st : StO K Tb ι0 H0 O ι H σ ρ S) (r : VlR K (hide (O ++ ι) H) ι v x) : StO K Tb ι0 H0 O ι H (σ.set i (some v)) (ρ.set i (some x)) S where
  base := st.base
  tr := st.tr
  len := by rw [List.length_set, List.length_set]; exact st.len
  slot := fun j y h => by
    by_cases e : i = j
    · subst e
      by_cases il : i < ρ.length
      · rw [List.getElem?_set_self il] at h
        cases h
        exact ⟨v, List.getElem?_set_self (by rw [st.len]; exact il), r⟩
      · rw [List.getElem?_eq_none (by rw [List.length_set]; omega)] at h; cases h
    · rw [List.getElem?_set_ne e] at h ⊢
      exact st.slot j y h
section
variable {X : Cx} {Tb : List Addr} {W : WX} {x : Str}
theorem og_nm {i : Nat} {pos : Pos} (hN : X.N.Nodup) (hi : X.N[i]? = some x) (hx : Loc X.env.scope x) (hf : X.fn x = true ∨ X.env.scope.names.lookup x = some .local := by first | exact .inl rfl | exact .inr rfl | assumption) : PG X (.Name x pos) (tGO X.K Tb (.nm i)) :=
  (pg_name hN hi hx hf).by fun v σ H Q ⟨ι0, H0, O, ι, ρ, S, ρ', y, st, r, e, q⟩ => by
    unfold Tg.setO at e
    cases e
    exact q _ (st.set r)
theorem ogs_nil : PGs X [] (tGsO X.K Tb []) := pgs_nil.by fun v σ H Q ⟨ι0, H0, O, ι, ρ, S, ρ', xs, st, r, e, q⟩ => by
  cases r with
  | nil =>
    unfold Tg.setsO at e
    cases e
    exact ⟨rfl, q _ st⟩
  | cons _ _ => unfold Tg.setsO at e; cases e
theorem ogs_cons {e : Expr} {es : List Expr} {t : Tg} {ts : List Tg} (h1 : PG X e (tGO X.K Tb t)) (h2 : PGs X es (tGsO X.K Tb ts))
    (hs : (assignEach (e :: es) X.env).map (·.2) = assign e X.env :: (assignEach es X.env).map (·.2) := by rfl) : PGs X (e :: es) (tGsO X.K Tb (t :: ts)) := (pgs_cons h1 h2 hs).by fun v σ H Q ⟨ι0, H0, O, ι, ρ, S, ρ', xs, st, r, e, q⟩ => by
  cases r with
  | nil => unfold Tg.setsO at e; cases e
  | @cons v vs d ds r1 r2 =>
    unfold Tg.setsO at e
    cases e1 : Tg.setO t d ρ with
    | none => rw [e1] at e; cases e
    | some ρ1 =>
      rw [e1] at e
      exact ⟨v, vs, rfl, ι0, H0, O, ι, ρ, S, ρ1, d, st, r1, e1, fun σ' st' => ⟨ι0, H0, O, ι, ρ1, S, ρ', ds, st', r2, e, q⟩⟩
theorem og_tup {es : List Expr} {k : Nat} {ts : List Tg} {pos : Pos} {n : Nat} (hc : X.calm = true) (h : PGs X es (tGsO X.K Tb ts)) (hn : (assignEach es X.env).length = n := by rfl) (hst : (assignEach es X.env).findIdx? (·.1) = none := by rfl) (hl : ts.length = n := by rfl) :
    PG X (.Tuple es k pos) (tGO X.K Tb (.tp ts)) := (pg_tup hc h hn hst).by fun v σ H Q ⟨ι0, H0, O, ι, ρ, S, ρ', x, st, r, e, q⟩ => by
  unfold Tg.setO at e
  split at e
  · rename_i ds
    cases r with
    | p r =>
      cases r with
      | tup h1 z1 a1 =>
        have hl2 := setsO_len ts _ ρ ρ' e
        rw [List.length_map] at hl2
        exact ⟨_, _, rfl, Sub.unhide.sqT h1, by rw [a1.length, hl2]; exact hl, ι0, H0, O, ι, ρ, S, ρ', _, st, VlRs.ofRp a1, e, q⟩
  · rename_i xs
    cases r with
    | tp h1 z1 a1 =>
      have hl2 := setsO_len ts _ ρ ρ' e
      exact ⟨_, _, rfl, Sub.unhide.sqT h1, by rw [a1.length, hl2]; exact hl, ι0, H0, O, ι, ρ, S, ρ', _, st, a1, e, q⟩
  · cases e
end
end PD
set_option Elab.async false
set_option linter.all false
set_option maxRecDepth 100000
set_option maxHeartbeats 1000000
namespace PD
open PySem PySem.Spec PyProof.Rows L2
inductive OutO where
  | nx (ρ : RhoO) (S : Store)
  | rt (d : Vl) (S : Store)
  | bk (ρ : RhoO) (S : Store)
  | ct (ρ : RhoO) (S : Store)
  | exc (e : Ex) (ρ : RhoO) (S : Store)
  | bad
abbrev SO := RhoO → Store → OutO
def PostSO (K : PySem.W.Frag) (Tb : List Addr) (W : WX) (ι0 : List Addr) (H0 : Hp) (O : List Addr) (out : OutO) (D : Ends) : Prop := match out with
  | .nx ρ S => ∀ ι σ H, StO K Tb ι0 H0 O ι H σ ρ S → D.nx σ H
  | .rt d S => ∀ v ι H, TrO ι0 H0 ι H → BaseO K Tb O ι H S → VlR K (hide (O ++ ι) H) ι v d → D.rt v H
  | .bk ρ S => ∀ ι σ H, StO K Tb ι0 H0 O ι H σ ρ S → D.bk σ H
  | .ct ρ S => ∀ ι σ H, StO K Tb ι0 H0 O ι H σ ρ S → D.ct σ H
  | .exc e ρ S => ∀ ι σ H c dd, StO K Tb ι0 H0 O ι H σ ρ S → ExR K (hide (O ++ ι) H) H c dd e → W c dd σ H
  | .bad => False
def tSO (K : PySem.W.Frag) (Tb : List Addr) (W : WX) (g : SO) : TS := fun D σ H => ∃ ι0 H0 O ι ρ S, StO K Tb ι0 H0 O ι H σ ρ S ∧ PostSO K Tb W ι0 H0 O (g ρ S) D
def oRO {α : Type} (x : RO α) (ρ : RhoO) (k : α → Store → OutO) : OutO := match x with
  | .ok a S => k a S
  | .exc e S => .exc e ρ S
  | .bad => .bad
@[simp] theorem oRO_ok {α : Type} (a : α) (S : Store) (ρ : RhoO) (k : α → Store → OutO) : oRO (.ok a S) ρ k = k a S := rfl
def sSkip : SO := .nx
def sSeq (g h : SO) : SO := fun ρ S => match g ρ S with
  | .nx ρ' S' => h ρ' S'
  | o => o
def sSet (f : EO) (t : Tg) : SO := fun ρ S => oRO (f ρ S) ρ fun x S1 => match t.setO x ρ with
  | some ρ' => .nx ρ' S1
  | none => .bad
def sExpr (f : EO) : SO := fun ρ S => oRO (f ρ S) ρ fun _ S1 => .nx ρ S1
def sRet (f : EO) : SO := fun ρ S => oRO (f ρ S) ρ .rt
def sRetN : SO := fun _ S => .rt (.p .none) S
def sIf (c : EOB) (g h : SO) : SO := fun ρ S => oRO (c ρ S) ρ fun b S1 => if b = true then g ρ S1 else h ρ S1
abbrev EOI := RhoO → Store → RO (List PyData)
def sForGo (t : Tg) (g : SO) : List PyData → RhoO → Store → OutO
  | [], ρ, S => .nx ρ S
  | d :: ds, ρ, S => match t.setO (.p d) ρ with
    | some ρ1 => match g ρ1 S with
      | .nx ρ2 S2 => sForGo t g ds ρ2 S2
      | .ct ρ2 S2 => sForGo t g ds ρ2 S2
      | .bk ρ2 S2 => .nx ρ2 S2
      | o => o
    | none => .bad
def sFor (fi : EOI) (t : Tg) (g : SO) : SO := fun ρ S => oRO (fi ρ S) ρ fun ds S1 => sForGo t g ds ρ S1
def oMaskI (f : DnL) : EOI := fun ρ S => match f (maskR ρ) with
  | .ok d => .ok d S
  | .exc e => .exc e S
  | .bad => .bad
def tIO (K : PySem.W.Frag) (Tb : List Addr) (W : WX) (f : EOI) : TI := fun σ H R => ∃ ι0 H0 O ι ρ S, StO K Tb ι0 H0 O ι H σ ρ S ∧ PostO K Tb O ι H (fun ι' H' J ds => ItD K (hide (O ++ ι') H') J ds) (fun c d H => W c d σ H) (f ρ S) R
section
variable {X : Cx} {Tb : List Addr} {W : WX} {tg e : Expr} {f : DnL} {g : EO} {p pos : Pos}
theorem oi_mask (h : PI X tg e (tI X.K Tb W f)) : PI X tg e (tIO X.K Tb W (oMaskI f)) := h.by fun σ H R ⟨ι0, H0, O, ι, ρ, S, st, q⟩ => ⟨H, O ++ ι, O ++ ι, maskR ρ, st.mask, by
  unfold oMaskI at q
  cases x : f (maskR ρ) with
  | ok d => rw [x] at q; exact fun v H' e r => q v ι H' (.ext e) (st.base.step e) r
  | exc y => rw [x] at q; exact fun c d H' e r => q c d ι H' (.ext e) (st.base.step e) r
  | bad => rw [x] at q; exact q⟩
end
section
variable {X : Cx} {Tb : List Addr} {W : WX} {e c : Expr} {f : EO} {fb : EOB} {g h : SO} {pos : Pos} {st : Stmt} {sts : List Stmt}
theorem oRO_post {K : PySem.W.Frag} {ι0 O ι : List Addr} {H0 H : Hp} {σ : L2.St} {ρ : RhoO} {S : Store} {α β : Type} {x : RO α} {k : α → Store → OutO} {Rl : List Addr → Hp → β → α → Prop} {D : Ends} {Q : β → Hp → Prop} (st : StO K Tb ι0 H0 O ι H σ ρ S) (h : PostSO K Tb W ι0 H0 O (oRO x ρ k) D)
    (q : ∀ a S1 b ι1 H1, TrO ι H ι1 H1 → BaseO K Tb O ι1 H1 S1 → Rl ι1 H1 b a → PostSO K Tb W ι0 H0 O (k a S1) D → Q b H1) : PostO K Tb O ι H Rl (fun c d H => W c d σ H) x Q := by
  cases x with
  | ok a S1 => exact fun v ι' H' t B r => q a S1 v ι' H' t B r h
  | exc e S1 => exact fun c dd ι' H' t B r => h ι' σ H' c dd (st.step t B) r
  | bad => exact h
theorem os_nil : PSs X [] (tSO X.K Tb W sSkip) := pss_nil.by fun D σ H ⟨ι0, H0, O, ι, ρ, S, st, h⟩ => h ι σ H st
theorem os_cons (h1 : PS X st (tSO X.K Tb W g)) (h2 : PSs X sts (tSO X.K Tb W h)) : PSs X (st :: sts) (tSO X.K Tb W (sSeq g h)) := (pss_cons h1 h2).by fun D σ H ⟨ι0, H0, O, ι, ρ, S, st, q⟩ => ⟨ι0, H0, O, ι, ρ, S, st, by
  unfold sSeq at q
  cases e : g ρ S with
  | nx ρ' S' => rw [e] at q; exact fun ι' σ' H' st' => ⟨ι0, H0, O, ι', ρ', S', st', q⟩
  | rt d S' => rw [e] at q; exact q
  | bk ρ' S' => rw [e] at q; exact q
  | ct ρ' S' => rw [e] at q; exact q
  | exc x ρ' S' => rw [e] at q; exact q
  | bad => rw [e] at q; exact q⟩
theorem os_one (h1 : PS X st (tSO X.K Tb W g)) : PSs X [st] (tSO X.K Tb W g) := pss_one h1
theorem os_ret (he : PE X e (tO X.K Tb W f)) : PS X (.Return (some e) pos) (tSO X.K Tb W (sRet f)) := (ps_ret he).by fun D σ H ⟨ι0, H0, O, ι, ρ, S, st, h⟩ => ⟨ι0, H0, O, ι, ρ, S, st, oRO_post st h fun d S1 v ι1 H1 t B r k => k v ι1 H1 (st.tr.trans t) B r⟩
theorem os_expr (he : PE X e (tO X.K Tb W f)) (hs : swapsWith e none pos.line X.env = pure false := by rfl) : PS X (.Expr e pos) (tSO X.K Tb W (sExpr f)) := (ps_expr he hs).by fun D σ H ⟨ι0, H0, O, ι, ρ, S, st, h⟩ => ⟨ι0, H0, O, ι, ρ, S, st, oRO_post st h fun d S1 v ι1 H1 t B r k => k ι1 σ H1 (st.step t B)⟩
theorem os_if {a b : List Stmt} (hc : PT X c (tOB X.K Tb W fb)) (ha : PSs X a (tSO X.K Tb W g)) (hb : PSs X b (tSO X.K Tb W h)) : PS X (.If c a b pos) (tSO X.K Tb W (sIf fb g h)) := (ps_if hc ha hb).by fun D σ H ⟨ι0, H0, O, ι, ρ, S, st, h⟩ => ⟨ι0, H0, O, ι, ρ, S, st, oRO_post st h fun d S1 v ι1 H1 t B r k => by
  cases (show v = d from r)
  cases d with
  | true => exact ⟨ι0, H0, O, ι1, ρ, S1, st.step t B, k⟩
  | false => exact ⟨ι0, H0, O, ι1, ρ, S1, st.step t B, k⟩⟩
theorem os_set {i : Nat} {x : Str} {pos' : Pos} (hN : X.N.Nodup) (hi : X.N[i]? = some x) (hx : Loc X.env.scope x) (he : PE X e (tO X.K Tb W f)) (hs : swapsWith e (some (.Name x pos')) pos.line X.env = pure false := by rfl)
    (hf : X.fn x = true ∨ X.env.scope.names.lookup x = some .local := by first | exact .inl rfl | exact .inr rfl | assumption) : PS X (.Assign [.Name x pos'] e pos) (tSO X.K Tb W (sSet f (.nm i))) := (ps_set hN hi hx he hs hf).by fun D σ H ⟨ι0, H0, O, ι, ρ, S, st, h⟩ => ⟨ι0, H0, O, ι, ρ, S, st, oRO_post st h fun d S1 v ι1 H1 t B r k => by
  unfold Tg.setO at k
  exact k ι1 _ H1 ((st.step t B).set r)⟩
theorem os_asg {tg : Expr} {t : Tg} (he : PE X e (tO X.K Tb W f)) (hg : PG X tg (tGO X.K Tb t)) (hs : swapsWithSole [tg] e pos.line X.env = pure false := by rfl) (hw : swappedStores [tg] e X.env = pure none := by rfl)
    (h1 : (assignEach [tg] X.env).map (·.2) = [assign tg X.env] := by rfl) : PS X (.Assign [tg] e pos) (tSO X.K Tb W (sSet f t)) := (ps_asg he hg hs hw h1).by fun D σ H ⟨ι0, H0, O, ι, ρ, S, st, h⟩ => ⟨ι0, H0, O, ι, ρ, S, st, oRO_post st h fun d S1 v ι1 H1 tr B r k => by
  cases q : t.setO d ρ with
  | none => rw [q] at k; exact k.elim
  | some ρ' =>
    rw [q] at k
    exact ⟨ι0, H0, O, ι1, ρ, S1, ρ', d, st.step tr B, r, q, fun σ' st' => k ι1 σ' H1 st'⟩⟩
theorem os_for {tg iter : Expr} {body : List Stmt} {fi : EOI} {t : Tg} (hp : PassesOwn (model X.prog X.w) X.A X.env X.xe) (hc : X.calm = true) (hi : PI X tg iter (tIO X.K Tb W fi)) (hg : PG X tg (tGO X.K Tb t)) (hb : PSs X body (tSO X.K Tb W g))
    (hs : ∀ x, foldedSetIterable iter X.env x = pure x := by intro _; rfl) : PS X (.For tg iter body [] pos) (tSO X.K Tb W (sFor fi t g)) := (ps_for hp hc hi hg hb hs).by fun D σ H ⟨ι0, H0, O, ι, ρ, S, st, h⟩ => ⟨ι0, H0, O, ι, ρ, S, st, oRO_post st h fun ds S1 J ι1 H1 tr B it k => by
  have st1 := st.step tr B
  refine ⟨fun i m σ' H' => i ≤ ds.length ∧ m = ds.length - i ∧ ∃ ι' ρ' S', TrO ι1 H1 ι' H' ∧ StO X.K Tb ι0 H0 O ι' H' σ' ρ' S' ∧ PostSO X.K Tb W ι0 H0 O (sForGo t g (ds.drop i) ρ' S') D,
    ⟨ds.length, Nat.zero_le _, by simp, ι1, ρ, S1, .refl _ _, st1, k⟩, ?_⟩
  rintro i m σ' H' ⟨hi, rfl, ι', ρ', S', tr', s1, k2⟩
  have eH : Ext (hide (O ++ ι1) H1) H' := tr'.hid
  have nG : ∀ b ∈ O ++ ι', hide (O ++ ι1) H1 b = none := fun b hb => by
    by_cases h1 : b ∈ O ++ ι1
    · exact hide_in h1
    · rw [List.mem_append, not_or] at h1
      rcases List.mem_append.mp hb with hb | hb
      · exact absurd hb h1.1
      · exact hide_none (tr'.new b hb h1.2)
  by_cases hlt : i < ds.length
  · refine .inr ⟨it.go i H' eH hlt, fun σ2 H2 => i + 1 ≤ ds.length ∧ ∃ ι2 ρ2 S2, TrO ι1 H1 ι2 H2 ∧ StO X.K Tb ι0 H0 O ι2 H2 σ2 ρ2 S2 ∧ PostSO X.K Tb W ι0 H0 O (sForGo t g (ds.drop (i + 1)) ρ2 S2) D,
      fun σ2 H2 q => ⟨ds.length - (i + 1), by omega, q.1, rfl, q.2⟩, fun x H2 y => ?_⟩
    obtain ⟨e2, d, hd, rx⟩ := it.yld i H' (O ++ ι') x H2 eH nG s1.base.alA hlt y
    have hdr : ds.drop i = d :: ds.drop (i + 1) := by
      obtain ⟨hl, hd'⟩ := List.getElem?_eq_some_iff.mp hd
      rw [List.drop_eq_getElem_cons hl, hd']
    rw [hdr] at k2
    unfold sForGo at k2
    cases et : t.setO (.p d) ρ' with
    | none => rw [et] at k2; exact k2.elim
    | some ρ1 =>
      rw [et] at k2
      have s2 := s1.step (.ext e2) (s1.base.step e2)
      -- the body begins a stretch of its own: from here
      have s2' : StO X.K Tb ι' H2 O ι' H2 σ' ρ' S' := ⟨s2.base, .refl _ _, s2.len, s2.slot⟩
      have tr2 : TrO ι1 H1 ι' H2 := tr'.trans (.ext e2)
      refine ⟨ι', H2, O, ι', ρ', S', ρ1, .p d, s2', .p rx, et, fun σ3 s3 => ⟨ι', H2, O, ι', ρ1, S', s3, ?_⟩⟩
      have back : ∀ {ι4 : List Addr} {σ4 : L2.St} {H4 : Hp} {ρ4 : RhoO} {S4 : Store}, StO X.K Tb ι' H2 O ι4 H4 σ4 ρ4 S4 → StO X.K Tb ι0 H0 O ι4 H4 σ4 ρ4 S4 := fun s => ⟨s.base, s2.tr.trans s.tr, s.len, s.slot⟩
      cases eg : g ρ1 S' with
      | nx ρ2 S2 => simp only [eg] at k2; exact fun ι4 σ4 H4 s4 => ⟨hlt, ι4, ρ2, S2, tr2.trans s4.tr, back s4, k2⟩
      | ct ρ2 S2 => simp only [eg] at k2; exact fun ι4 σ4 H4 s4 => ⟨hlt, ι4, ρ2, S2, tr2.trans s4.tr, back s4, k2⟩
      | bk ρ2 S2 => simp only [eg] at k2; exact fun ι4 σ4 H4 s4 => k2 ι4 σ4 H4 (back s4)
      | rt d S2 => simp only [eg] at k2; exact fun v ι4 H4 t4 B4 r4 => k2 v ι4 H4 (s2.tr.trans t4) B4 r4
      | exc x ρ2 S2 => simp only [eg] at k2; exact fun ι4 σ4 H4 c dd s4 r4 => k2 ι4 σ4 H4 c dd (back s4) r4
      | bad => simp only [eg] at k2; exact k2
  · have ei : i = ds.length := by omega
    subst ei
    rw [List.drop_length] at k2
    exact .inl ⟨it.stop H' eH, k2 ι' σ' H' s1⟩⟩
end
end PD
set_option Elab.async false
set_option linter.all false
set_option maxRecDepth 100000
set_option maxHeartbeats 1000000
namespace PD
open PySem PySem.Spec PyProof.Rows L2
def putFl (f : Str) (v : Vl) : List (Str × Vl) → List (Str × Vl)
  | [] => [(f, v)]
  | (g, x) :: r => if g = f then (g, v) :: r else (g, x) :: putFl f v r
/-- o.f = y -/
def putFld (C : Addr) (f : Str) (x y : Vl) (S : Store) : Option Store := match x with
  | .rf l => (match S[l]? with
    | some (.ins C' fs) => if C' = C ∧ fs.length < 1000 then some (S.set l (.ins C' (putFl f y fs))) else none
    | _ => none)
  | _ => none
def sFldS (C : Addr) (f : Str) (go : EO) (ge : EO) : SO := fun ρ S => oRO (ge ρ S) ρ fun y S1 => oRO (go ρ S1) ρ fun x S2 => match putFld C f x y S2 with
  | some S3 => .nx ρ S3
  | none => .bad
/-- the list at x -/
def lstV (x : Vl) (S : Store) : Option (Nat × List Vl) := match x with
  | .rf l => (match S[l]? with
    | some (.lst xs) => some (l, xs)
    | _ => none)
  | _ => none
def sSetAt (go gi ge : EO) : SO := fun ρ S => oRO (ge ρ S) ρ fun y S1 => oRO (go ρ S1) ρ fun x S2 => oRO (gi ρ S2) ρ fun i S3 => match lstV x S3, i with
  | some (l, xs), .p (.int k) => (match ixN xs.length k with
    | some j => .nx ρ (S3.set l (.lst (xs.set j y)))
    | none => .bad)
  | _, _ => .bad
def sAugAt (go gi ge : EO) : SO := fun ρ S => oRO (go ρ S) ρ fun x S1 => oRO (gi ρ S1) ρ fun i S2 => match lstV x S2, i with
  | some (_, xs), .p (.int k) => (match atI xs k with
    | some (.p (.int z)) => oRO (ge ρ S2) ρ fun y S3 => (match lstV x S3, y with
      | some (l, xs), .p (.int w) => (match ixN xs.length k with
        | some j => .nx ρ (S3.set l (.lst (xs.set j (.p (.int (z + w))))))
        | none => .bad)
      | _, _ => .bad)
    | _ => .bad)
  | _, _ => .bad
section
variable {K : PySem.W.Frag} {Tb O ι : List Addr} {H : Hp} {S : Store} {G : Hp}
theorem putFl_keys (f : Str) : ∀ {gs : List (Str × V)} {fs : List (Str × Vl)} {w : V} {y : Vl}, gs.map (·.1) = fs.map (·.1) → VlRs K G ι (gs.map (·.2)) (fs.map (·.2)) → VlR K G ι w y → (putF f w gs).map (·.1) = (putFl f y fs).map (·.1) ∧ VlRs K G ι ((putF f w gs).map (·.2)) ((putFl f y fs).map (·.2))
  | [], [], _, _, _, _, r => ⟨rfl, .cons r .nil⟩
  | [], _ :: _, _, _, e, _, _ => by cases e
  | _ :: _, [], _, _, e, _, _ => by cases e
  | (a, v) :: gs, (b, x) :: fs, w, y, e, h, r => by
    rw [List.map_cons, List.map_cons] at e h
    injection e with e1 e2
    have e1 : a = b := e1
    subst e1
    cases h with
    | cons r1 r2 =>
      unfold putF putFl
      by_cases c : a = f
      · rw [if_pos c, if_pos c]
        exact ⟨by rw [List.map_cons, List.map_cons, e2], .cons r r2⟩
      · rw [if_neg c, if_neg c]
        obtain ⟨h1, h2⟩ := putFl_keys f e2 r2 r
        exact ⟨by rw [List.map_cons, List.map_cons, h1], .cons r1 h2⟩
theorem putFld_read (B : BaseO K Tb O ι H S) {C : Addr} {f : Str} {x y : Vl} {v w : V} {S' : Store} (rx : VlR K (hide (O ++ ι) H) ι v x) (ry : VlR K (hide (O ++ ι) H) ι w y) (h : putFld C f x y S = some S') :
    ∃ a dx gs, v = .ref a ∧ H a = some (.ins C dx gs) ∧ gs.length < 1000 ∧ BaseO K Tb O ι (upd H a (.ins C dx (putF f w gs))) S' ∧ TrO ι H ι (upd H a (.ins C dx (putF f w gs))) := by
  unfold putFld at h
  split at h
  · rename_i l
    cases rx with
    | rf ha =>
      rename_i a
      split at h
      · rename_i C' fs hc
        split at h
        · rename_i hC
          obtain ⟨rfl, hl⟩ := hC
          cases h
          obtain ⟨dx, gs, h1, h2, h3⟩ := B.cell _ _ _ hc ha
          obtain ⟨k1, k2⟩ := putFl_keys f h2 h3 ry
          have hlen : gs.length = fs.length := by have := congrArg List.length h2; rwa [List.length_map, List.length_map] at this
          obtain ⟨B', t⟩ := B.put (c' := .ins C' (putFl f y fs)) ha (show CellR K (hide (O ++ ι) H) (upd H a (.ins C' dx (putF f w gs))) ι a (.ins C' (putFl f y fs)) from ⟨dx, _, upd_same, k1, k2⟩)
          exact ⟨a, dx, gs, rfl, h1, by rw [hlen]; exact hl, B', t⟩
        · cases h
      · cases h
  · cases h
theorem lstV_read (B : BaseO K Tb O ι H S) {x : Vl} {v : V} {l : Nat} {xs : List Vl} (r : VlR K (hide (O ++ ι) H) ι v x) (h : lstV x S = some (l, xs)) : ∃ a vs, v = .ref a ∧ x = .rf l ∧ ι[l]? = some a ∧ H a = some (.lst vs) ∧ xs.length ≤ sizeLine ∧ VlRs K (hide (O ++ ι) H) ι vs xs := by
  unfold lstV at h
  split at h
  · rename_i l'
    cases r with
    | rf ha =>
      split at h
      · rename_i xs' hc
        cases h
        obtain ⟨vs, h1, h2, h3⟩ := B.cell _ _ _ hc ha
        exact ⟨_, vs, rfl, rfl, ha, h1, h2, h3⟩
      · cases h
  · cases h
theorem lstW (B : BaseO K Tb O ι H S) {a : Addr} {l : Nat} {vs : List V} {xs : List Vl} (ha : ι[l]? = some a) (z : xs.length ≤ sizeLine) (r : VlRs K (hide (O ++ ι) H) ι vs xs) : BaseO K Tb O ι (upd H a (.lst vs)) (S.set l (.lst xs)) ∧ TrO ι H ι (upd H a (.lst vs)) :=
  B.put ha (show CellR K (hide (O ++ ι) H) (upd H a (.lst vs)) ι a (.lst xs) from ⟨vs, upd_same, z, r⟩)
end
section
variable {X : Cx} {Tb : List Addr} {W : WX} {o e ei value : Expr} {g h ge gi : EO} {C : Addr} {f : Str} {fs : List Str} {pos pos' apos cpos spos : Pos}
theorem os_fld (F : ClsF X.K C fs) (hf : f ∈ fs) (ho : PE X o (tO X.K Tb W g)) (hv : PE X value (tO X.K Tb W ge)) (hs : swapsWith value (some (.Attribute o f pos')) pos.line X.env = pure false := by rfl) : PS X (.Assign [.Attribute o f pos'] value pos) (tSO X.K Tb W (sFldS C f g ge)) :=
  (ps_fld ho hv hs).by fun D σ H ⟨ι0, H0, O, ι, ρ, S, st, q⟩ => ⟨ι0, H0, O, ι, ρ, S, st, oRO_post st q fun y S1 w ι1 H1 t B r k => ⟨ι0, H0, O, ι1, ρ, S1, st.step t B, oRO_post (st.step t B) k fun x S2 v ι2 H2 t2 B2 r2 k2 => by
    split at k2
    · rename_i S3 hp
      obtain ⟨a, dx, gs, rfl, h1, h2, B3, t3⟩ := putFld_read B2 r2 (r.mono t2.sub t2.pre) hp
      exact ⟨a, C, dx, gs, rfl, h1, F.cls, F.no f hf, h2, k2 ι2 σ _ (((st.step t B).step t2 B2).step t3 B3)⟩
    · exact k2.elim⟩⟩
theorem VlRs.dropLast {K : PySem.W.Frag} {G : Hp} {ι : List Addr} : ∀ {vs : List V} {xs : List Vl}, VlRs K G ι vs xs → VlRs K G ι vs.dropLast xs.dropLast
  | _, _, .nil => .nil
  | _, _, .cons r .nil => .nil
  | _, _, .cons r (.cons r2 t) => .cons r (VlRs.dropLast (.cons r2 t))
theorem os_setAt (ho : PE X o (tO X.K Tb W g)) (hi : PE X ei (tO X.K Tb W gi)) (he : PE X e (tO X.K Tb W ge))
    (ha : ∀ v, assign (.Subscript o ei spos) X.env v = (do
      let ov ← holding [v] (eval o X.env)
      let iv ← holding [v, ov] (eval ei X.env)
      standAt spos
      holding [v, ov, iv] (setItem ov iv v)
      release [v, ov, iv] []) := by intro _; rfl)
    (hs : swapsWithSole [.Subscript o ei spos] e pos.line X.env = pure false := by rfl) (hw : swappedStores [.Subscript o ei spos] e X.env = pure none := by rfl)
    (h1 : (assignEach [.Subscript o ei spos] X.env).map (·.2) = [assign (.Subscript o ei spos) X.env] := by rfl) :
    PS X (.Assign [.Subscript o ei spos] e pos) (tSO X.K Tb W (sSetAt g gi ge)) :=
  (ps_asg he (pg_sub ho hi set_list ha) hs hw h1).by fun D σ H ⟨ι0, H0, O, ι, ρ, S, st, q⟩ => ⟨ι0, H0, O, ι, ρ, S, st, oRO_post st q fun y S1 w ι1 H1 t B r k => ⟨ι0, H0, O, ι1, ρ, S1, st.step t B, oRO_post (st.step t B) k fun x S2 v ι2 H2 t2 B2 r2 k2 => ⟨ι0, H0, O, ι2, ρ, S2, (st.step t B).step t2 B2, oRO_post ((st.step t B).step t2 B2) k2 fun i S3 u ι3 H3 t3 B3 r3 k3 => by
    split at k3
    · rename_i l xs kk hx
      obtain ⟨a, vs, rfl, rfl, hl, h1, h2, h3⟩ := lstV_read B3 (r2.mono t3.sub t3.pre) hx
      cases r3 with
      | p r3 =>
        cases r3
        split at k3
        · rename_i j hj
          obtain ⟨B4, t4⟩ := lstW B3 (vs := vs.set j w) (xs := xs.set j y) hl (by rw [List.length_set]; exact h2) (h3.set (r.mono (t2.trans t3).sub (t2.trans t3).pre) j)
          exact ⟨a, vs, kk, j, rfl, rfl, h1, by rw [h3.length]; exact hj, k3 ι3 σ _ ((((st.step t B).step t2 B2).step t3 B3).step t4 B4)⟩
        · exact k3.elim
    · exact k3.elim⟩⟩⟩
theorem os_augAt (ho : PE X o (tO X.K Tb W g)) (hi : PE X ei (tO X.K Tb W gi)) (he : PE X e (tO X.K Tb W ge))
    (ha : ∀ ov iv new, augStore ei ov iv new = (do holding [new, ov, iv] (setItem ov iv new); release [new, ov, iv] []; pure .next) := by intros; rfl) :
    PS X (.AugAssign (.Subscript o ei spos) .Add e pos) (tSO X.K Tb W (sAugAt g gi ge)) :=
  (ps_augS ho hi pget_list he ip_add set_list ha).by fun D σ H ⟨ι0, H0, O, ι, ρ, S, st, q⟩ => ⟨ι0, H0, O, ι, ρ, S, st, oRO_post st q fun x S1 v ι1 H1 t B r k => ⟨ι0, H0, O, ι1, ρ, S1, st.step t B, oRO_post (st.step t B) k fun i S2 u ι2 H2 t2 B2 r2 k2 => by
    split at k2
    · rename_i l xs kk hx
      have rx2 := r.mono t2.sub t2.pre
      obtain ⟨a, vs, rfl, rfl, hl, h1, h2, h3⟩ := lstV_read B2 rx2 hx
      cases r2 with
      | p r2 =>
        cases r2
        split at k2
        · rename_i z hz
          obtain ⟨c, g1, g2⟩ := atI_vl h3 hz
          cases g2 with
          | p g2 =>
            cases g2
            refine ⟨a, vs, kk, .int z, rfl, rfl, .of h1, g1, ι0, H0, O, ι2, ρ, S2, (st.step t B).step t2 B2, oRO_post ((st.step t B).step t2 B2) k2 fun y S3 w ι3 H3 t3 B3 r3 k3 => ?_⟩
            split at k3
            · rename_i l3 xs3 ww hx3
              obtain ⟨a3, vs3, e1, e2, q1, q2, q3, q4⟩ := lstV_read B3 (rx2.mono t3.sub t3.pre) hx3
              cases e1
              cases e2
              cases r3 with
              | p r3 =>
                cases r3
                split at k3
                · rename_i j hj
                  obtain ⟨B4, t4⟩ := lstW B3 (vs := vs3.set j (.int (z + ww))) (xs := xs3.set j (.p (.int (z + ww)))) q1 (by rw [List.length_set]; exact q3) (q4.set (.p (.int _)) j)
                  exact ⟨z, ww, rfl, rfl, a, vs3, kk, j, rfl, rfl, q2, by rw [q4.length]; exact hj, k3 ι3 σ _ ((((st.step t B).step t2 B2).step t3 B3).step t4 B4)⟩
                · exact k3.elim
            · exact k3.elim
        · exact k2.elim
    · exact k2.elim⟩⟩
end
def startO (n : Nat) (xs : List Vl) : RhoO := xs.map some ++ List.replicate (n - xs.length) none
def endO : OutO → RO Vl
  | .nx _ S => .ok (.p .none) S
  | .rt d S => .ok d S
  | .exc e _ S => .exc e S
  | _ => .bad
def runO (n p : Nat) (g : SO) : MO := fun xs S => if xs.length = p then endO (g (startO n xs) S) else .bad
/-- a def whose arguments and answers are data: what it made is data behind it -/
def pureO (m : MO) : List PyData → R PyData := fun ds => match m (ds.map .p) [] with
  | .ok x S => (match snapV 6 S x with | some d => .ok d | none => .bad)
  | .exc e _ => .exc e
  | .bad => .bad
section
variable {P : Program} {w : World} {K : PySem.W.Frag} {mg : Str → Option Value} {base : Heap} {Tb : List Addr}
theorem StO.init {O ι : List Addr} {H : Hp} {S : Store} {vs : List V} {xs : List Vl} (n : Nat) (B : BaseO K Tb O ι H S) (r : VlRs K (hide (O ++ ι) H) ι vs xs) : StO K Tb ι H O ι H (vs.map some ++ List.replicate n none) (xs.map some ++ List.replicate n none) S where
  base := B
  tr := .refl _ _
  len := by simp [r.length]
  slot := fun i x h => by
    have hi : i < xs.length := by
      by_cases hi : i < xs.length
      · exact hi
      · rw [List.getElem?_append_right (by simpa using hi), List.getElem?_replicate] at h
        split at h <;> cases h
    rw [List.getElem?_append_left (by simpa using hi), List.getElem?_map] at h
    cases e : xs[i]? with
    | none => rw [e] at h; cases h
    | some d =>
      rw [e] at h
      cases h
      obtain ⟨v, h1, h2⟩ := r.get e
      refine ⟨v, ?_, h2⟩
      have hl : i < vs.length := by rw [r.length]; exact hi
      rw [List.getElem?_append_left (by simpa using hl), List.getElem?_map, h1]
      rfl
theorem runO_post {n p : Nat} {g : SO} {O ι : List Addr} {H : Hp} {S : Store} {vs : List V} {xs : List Vl} {Q : VK} {E : XK} (B : BaseO K Tb O ι H S) (r : VlRs K (hide (O ++ ι) H) ι vs xs) (h : PostO K Tb O ι H (RlV K O) E (runO n p g xs S) Q) :
    xs.length = p ∧ PostSO K Tb (WE E) ι H O (g (startO n xs) S) ⟨fun σ H' => Q .non H', fun v H' => Q v H', fun _ _ => False, fun _ _ => False⟩ := by
  unfold runO at h
  split at h
  · rename_i e
    refine ⟨e, ?_⟩
    cases q : g (startO n xs) S with
    | nx ρ S' => rw [q] at h; exact fun ι' σ' H' st' => h .non ι' H' st'.tr st'.base (.p .non)
    | rt d S' => rw [q] at h; exact fun v ι' H' t B' r' => h v ι' H' t B' r'
    | exc x ρ S' => rw [q] at h; exact fun ι' σ' H' c d st' ex => h c d ι' H' st'.tr st'.base ex
    | bk ρ S' => rw [q] at h; exact h.elim
    | ct ρ S' => rw [q] at h; exact h.elim
    | bad => rw [q] at h; exact h.elim
  · exact h.elim
theorem fn_okO {x qual : Str} {st : Stmt} {f : Addr} {fd : FuncData} {N ps : List Str} {k : Nat} {g : SO} (F : Fun K x qual st f fd) (S : FnScope N ps (defScope st))
    (hb : ∀ (cdv : Value) (A : Around) (outer : List Env) (s : Shared) (H : Hp) (E : XK), Room k (A.deeper (envOfC qual (defScope st) s.heap.objs.size f cdv)) →
      PSs (cxOf (L2N.CX P w) P w K mg base N qual (defScope st) f cdv A outer s H E) (defBody st) (tSO K Tb (WE E) g)) :
    FnOk P w K mg base (L2N.CX P w) (k + 1) f fd ps (spO K Tb (runO N.length ps.length g)) := by
  obtain ⟨oc, od, kV, doc, pm, an, cdv, ct, osl, rfl, lk, hcd⟩ := F.ex
  refine fn_of lk hcd S (fun vs H Q E h => ?_) fun A outer s H vs Q E hr h => ⟨_, hb cdv A outer s H E hr, ?_⟩
  · obtain ⟨O, ι, St, xs, B, r, h⟩ := h
    rw [r.length]
    exact (runO_post B r h).1
  · obtain ⟨O, ι, St, xs, B, r, h⟩ := h
    obtain ⟨e, h⟩ := runO_post B r h
    refine ⟨ι, H, O, ι, startO N.length xs, St, ?_, ?_⟩
    · have st := StO.init (N.length - xs.length) B r
      unfold L2.start startO
      rw [r.length]
      exact st
    · cases q : g (startO N.length xs) St with
      | nx ρ S' => rw [q] at h; exact h
      | rt d S' => rw [q] at h; exact h
      | exc x ρ S' => rw [q] at h; exact h
      | bk ρ S' => rw [q] at h; exact fun ι' σ' H' st' => (h ι' σ' H' st').elim
      | ct ρ S' => rw [q] at h; exact fun ι' σ' H' st' => (h ι' σ' H' st').elim
      | bad => rw [q] at h; exact h.elim
theorem base_nil {O : List Addr} {H : Hp} (al : Al O H) (tb : ∀ P ∈ Tb, TabC H P) : BaseO K Tb O [] H [] where
  al := al
  tab := tb
  nd := List.nodup_nil
  dj := fun b m => nomatch m
  len := rfl
  cell := fun l c a h _ => by simp at h
theorem hide_nil {O : List Addr} {H : Hp} : hide (O ++ []) H = hide O H := by rw [List.append_nil]
theorem ext_tr {ι : List Addr} {H H' : Hp} (t : TrO [] H ι H') : Ext H H' := ⟨fun b o h n => t.keep b o h (fun m => nomatch m) n, t.tab, t.al⟩
/-- the promise of such a def, as that of a def over data -/
theorem spD_pure {m : MO} {vs : List V} {H : Hp} {Q : VK} {E : XK} (h : spD K Tb (pureO m) vs H Q E) : spO K Tb m vs H Q E := by
  obtain ⟨O, ds, al, tb, r, h⟩ := h
  refine ⟨O, [], [], ds.map .p, base_nil al tb, by rw [hide_nil]; exact VlRs.ofRp r, ?_⟩
  unfold pureO at h
  cases q : m (ds.map .p) [] with
  | ok x S =>
    rw [q] at h
    dsimp only at h
    intro v ι' H' t B r'
    split at h
    · rename_i d hd
      exact h v H' (ext_tr t) (B.snap 6 r' hd)
    · exact h.elim
  | exc e S =>
    rw [q] at h
    intro c dd ι' H' t B r'
    refine h c dd H' (ext_tr t) ?_
    obtain ⟨h1, h2⟩ := r'
    refine ⟨h1, ?_⟩
    rcases h2 with h2 | ⟨d, fs, h3, h4, h5, h6⟩
    · exact .inl h2
    · exact .inr ⟨d, fs, h3, h4, h5, h6.mono less_hid⟩
  | bad => rw [q] at h; exact h
end
end PD
set_option Elab.async false
set_option linter.all false
set_option maxRecDepth 100000
set_option maxHeartbeats 1000000
namespace PD
open PySem PySem.Spec PyProof.Rows L2
/-- [[] for _ in ..] -/
def oNewLL (fi : EOI) : EO := fun ρ S => (fi ρ S).bind fun ds S1 => .ok (.rf (S1.length + ds.length)) (S1 ++ List.replicate ds.length (.lst []) ++ [.lst ((List.range ds.length).map fun k => .rf (S1.length + k))])
end PD
set_option Elab.async false
set_option linter.all false
set_option maxRecDepth 100000
set_option maxHeartbeats 1000000
namespace PD
open PySem PySem.Spec PyProof.Rows L2
def MtD (P : Program) (w : World) (K : PySem.W.Frag) (mg : Str → Option Value) (base : Heap) (Tb : List Addr) (C : Addr) (nm : Str) (k : Nat) (m : List PyData → R PyData) : Prop :=
  Cls K C ∧ ∃ (f : Addr) (fd : FuncData) (ps : List Str), Meth K C nm f ∧ FnOk P w K mg base (L2N.CX P w) k f fd ps (spD K Tb m) ∧ Binds K fd ps []
def MtO (P : Program) (w : World) (K : PySem.W.Frag) (mg : Str → Option Value) (base : Heap) (Tb : List Addr) (C : Addr) (nm : Str) (k : Nat) (m : MO) : Prop :=
  Cls K C ∧ ∃ (f : Addr) (fd : FuncData) (ps : List Str), Meth K C nm f ∧ FnOk P w K mg base (L2N.CX P w) k f fd ps (spO K Tb m) ∧ Binds K fd ps []
def MkO (P : Program) (w : World) (K : PySem.W.Frag) (mg : Str → Option Value) (base : Heap) (Tb : List Addr) (x : Str) (C : Addr) (k : Nat) (m : MO) : Prop :=
  ∃ (f : Addr) (fd : FuncData) (ps : List Str), Mk K C f ∧ FnOk P w K mg base (L2N.CX P w) k f fd ps (spO K Tb m) ∧ Binds K fd ps [] ∧ mg x = some (.ref C)
def FnO (P : Program) (w : World) (K : PySem.W.Frag) (mg : Str → Option Value) (base : Heap) (Tb : List Addr) (x : Str) (k : Nat) (m : MO) : Prop :=
  ∃ (f : Addr) (fd : FuncData) (ps : List Str), FnOk P w K mg base (L2N.CX P w) k f fd ps (spO K Tb m) ∧ mg x = some (.ref f) ∧ PySem.W.keepIn K (.ref f) = true ∧ Binds K fd ps []
section
variable {X : Cx} {Tb : List Addr} {W : WX} {k j : Nat} {C : Addr} {m : List PyData → R PyData} {mo : MO} {x nm : Str} {p pos apos : Pos} {e o : Expr} {es : List Expr} {g : Dn} {gl : DnL} {go : EO} {gol : EOL}
theorem e_methM (M : MtD X.prog X.w X.K X.mg X.base Tb C nm k m) (hx : ∀ σ, PassesAt (L2N.CX X.prog X.w) X σ (L2.WE W σ)) (hr : Room j X.A) (ho : PE X o (tD X.K Tb W g)) (ha : PA X (e :: es) (tDs X.K Tb W gl)) (hj : k ≤ j := by decide) {pl : Sem Bool}
    (hst : starEach (e :: es) X.env = (false, eval e X.env) :: starEach es X.env := by rfl) (hpl : (backTo pos (starEach es X.env)).any (·.1) = false := by rfl)
    (ht : eval (.Call (.Attribute o nm apos) (e :: es) [] pos) X.env = (do
      let ov ← eval o X.env
      standAt apos.atName
      let (f, first) ← holding [ov] (getMethod ov nm pl)
      callWith pos f first (backTo pos (starEach (e :: es) X.env)) (backToKw pos (keywordEach [] X.env))) := by rfl) :
    PE X (.Call (.Attribute o nm apos) (e :: es) [] pos) (tD X.K Tb W (dMethD C nm m g gl)) := by
  obtain ⟨c, f, fd, ps, hm, F, hb⟩ := M
  exact e_meth c hm F (hr.mono hj) hb hx ho ha hst hpl ht
theorem o_methM (M : MtO X.prog X.w X.K X.mg X.base Tb C nm k mo) (hx : ∀ σ, PassesAt (L2N.CX X.prog X.w) X σ (L2.WE W σ)) (hr : Room j X.A) (ho : PE X o (tO X.K Tb W go)) (ha : PA X (e :: es) (tOs X.K Tb W gol)) (hj : k ≤ j := by decide) {pl : Sem Bool}
    (hst : starEach (e :: es) X.env = (false, eval e X.env) :: starEach es X.env := by rfl) (hpl : (backTo pos (starEach es X.env)).any (·.1) = false := by rfl)
    (ht : eval (.Call (.Attribute o nm apos) (e :: es) [] pos) X.env = (do
      let ov ← eval o X.env
      standAt apos.atName
      let (f, first) ← holding [ov] (getMethod ov nm pl)
      callWith pos f first (backTo pos (starEach (e :: es) X.env)) (backToKw pos (keywordEach [] X.env))) := by rfl) :
    PE X (.Call (.Attribute o nm apos) (e :: es) [] pos) (tO X.K Tb W (oMeth C nm mo go (oDfl [] gol))) := by
  obtain ⟨c, f, fd, ps, hm, F, hb⟩ := M
  exact o_meth (dds := []) c hm F (hr.mono hj) hb .nil (fun _ => .nil) hx ho ha hst hpl ht
theorem o_callM (F : FnO X.prog X.w X.K X.mg X.base Tb x k mo) (hx : ∀ σ, PassesAt (L2N.CX X.prog X.w) X σ (L2.WE W σ)) (hr : Room j X.A) (ha : PA X (e :: es) (tOs X.K Tb W gol)) (hj : k ≤ j := by decide) (hg : Gl X x := by rfl)
    (hdb : (x == ("__debug__" : Str)) = false := by decide) (he : starEach (e :: es) X.env = (false, eval e X.env) :: starEach es X.env := by rfl) (hpl : (backTo pos (starEach es X.env)).any (·.1) = false := by rfl) :
    PE X (.Call (.Name x p) (e :: es) [] pos) (tO X.K Tb W (oArg mo gol)) := by
  obtain ⟨f, fd, ps, h, g, kp, b⟩ := F
  exact o_call h (hr.mono hj) hg g kp b hx ha hdb he hpl
theorem o_makeM (M : MkO X.prog X.w X.K X.mg X.base Tb x C k mo) (hx : Passes (L2N.CX X.prog X.w) X (fun _ _ _ => False)) (hr : Room j X.A) (ha : PA X (e :: es) (tOs X.K Tb W gol)) (hj : k + 1 ≤ j := by decide) (hg : Gl X x := by rfl)
    (hdb : (x == ("__debug__" : Str)) = false := by decide) (he : starEach (e :: es) X.env = (false, eval e X.env) :: starEach es X.env := by rfl) (hpl : (backTo pos (starEach es X.env)).any (·.1) = false := by rfl) :
    PE X (.Call (.Name x p) (e :: es) [] pos) (tO X.K Tb W (oMake C mo gol)) := by
  obtain ⟨f, fd, ps, M, h, b, g⟩ := M
  exact o_make M h (hr.mono hj) hg g b hx ha hdb he hpl
end
def sRaise1 (C : Addr) (fld : Str) (f : EO) : SO := fun ρ S => oRO (f ρ S) ρ fun x S1 => match x with
  | .p d => .exc ⟨C, [(fld, d)]⟩ ρ S1
  | _ => .bad
section
variable {X : Cx} {Tb : List Addr} {W : WX}
theorem os_raise1 {C BC fI : Addr} {base fld nmC : Str} {a : Expr} {f : EO} {p pos pos2 : Pos} {k : Nat} (hc : X.calm = true) (tk : L2N.Takes X W) (T : ErrC X.K X.mg C BC fI base fld) (gC : X.mg nmC = some (.ref C)) (hr : Room k X.A) (ha : PE X a (tO X.K Tb W f)) (hg : Gl X nmC) (hdb : (nmC == ("__debug__" : Str)) = false := by decide)
    (he : starEach [a] X.env = (false, eval a X.env) :: starEach [] X.env := by rfl) (hpl : (backTo pos (starEach [] X.env)).any (·.1) = false := by rfl) :
    PS X (.Raise (some (.Call (.Name nmC p) [a] [] pos)) none pos2) (tSO X.K Tb W (sRaise1 C fld f)) :=
  (L2N.ps_raise hc tk (pmk_err T gC hr ha hg hdb he hpl)).by fun D σ H ⟨ι0, H0, O, ι, ρ, S, st, h⟩ => ⟨ι0, H0, O, ι, ρ, S, st, oRO_post st h fun d S1 v ι1 H1 t B r k => fun dd hdd => by
    cases d with
    | rf l => exact k.elim
    | tp xs => exact k.elim
    | p d =>
      cases r with
      | p rv =>
        have e2 := Ext.new (o := .xd [(fld, v)]) hdd
        refine k ι1 σ _ (.ref C) (some dd) ((st.step t B).step (.ext e2) (B.step e2)) ⟨rfl, .inr ⟨dd, [(fld, v)], rfl, upd_same, rfl, ?_⟩⟩
        exact .cons (rv.mono (Sub.hide e2.keep)) .nil⟩
theorem os_raiseX {C : Addr} {fld nmC : Str} {a : Expr} {f : EO} {p pos pos2 : Pos} {k : Nat} (hc : X.calm = true) (tk : L2N.Takes X W) (T : ErrX X.K X.mg C fld) (gC : X.mg nmC = some (.ref C)) (hr : Room k X.A) (ha : PE X a (tO X.K Tb W f)) (hg : Gl X nmC) (hdb : (nmC == ("__debug__" : Str)) = false := by decide)
    (he : starEach [a] X.env = (false, eval a X.env) :: starEach [] X.env := by rfl) (hpl : (backTo pos (starEach [] X.env)).any (·.1) = false := by rfl) :
    PS X (.Raise (some (.Call (.Name nmC p) [a] [] pos)) none pos2) (tSO X.K Tb W (sRaise1 C fld f)) := by
  obtain ⟨BC, fI, base, T⟩ := T
  exact os_raise1 hc tk T gC hr ha hg hdb he hpl
end
def sAugAtI (u : Int → Int → Int) (go gi ge : EO) : SO := fun ρ S => oRO (go ρ S) ρ fun x S1 => oRO (gi ρ S1) ρ fun i S2 => match lstV x S2, i with
  | some (_, xs), .p (.int k) => (match atI xs k with
    | some (.p (.int z)) => oRO (ge ρ S2) ρ fun y S3 => (match lstV x S3, y with
      | some (l, xs), .p (.int w) => (match ixN xs.length k with
        | some j => .nx ρ (S3.set l (.lst (xs.set j (.p (.int (u z w))))))
        | none => .bad)
      | _, _ => .bad)
    | _ => .bad)
  | _, _ => .bad
section
variable {X : Cx} {Tb : List Addr} {W : WX} {o ei e : Expr} {g gi ge : EO} {pos spos : Pos}
theorem os_augAtI {op : Operator} {u : Int → Int → Int} (hp : PIp X op (ipI u)) (ho : PE X o (tO X.K Tb W g)) (hi : PE X ei (tO X.K Tb W gi)) (he : PE X e (tO X.K Tb W ge))
    (ha : ∀ ov iv new, augStore ei ov iv new = (do holding [new, ov, iv] (setItem ov iv new); release [new, ov, iv] []; pure .next) := by intros; rfl) :
    PS X (.AugAssign (.Subscript o ei spos) op e pos) (tSO X.K Tb W (sAugAtI u g gi ge)) :=
  (ps_augS ho hi pget_list he hp set_list ha).by fun D σ H ⟨ι0, H0, O, ι, ρ, S, st, q⟩ => ⟨ι0, H0, O, ι, ρ, S, st, oRO_post st q fun x S1 v ι1 H1 t B r k => ⟨ι0, H0, O, ι1, ρ, S1, st.step t B, oRO_post (st.step t B) k fun i S2 u ι2 H2 t2 B2 r2 k2 => by
    split at k2
    · rename_i l xs kk hx
      have rx2 := r.mono t2.sub t2.pre
      obtain ⟨a, vs, rfl, rfl, hl, h1, h2, h3⟩ := lstV_read B2 rx2 hx
      cases r2 with
      | p r2 =>
        cases r2
        split at k2
        · rename_i z hz
          obtain ⟨c, g1, g2⟩ := atI_vl h3 hz
          cases g2 with
          | p g2 =>
            cases g2
            refine ⟨a, vs, kk, .int z, rfl, rfl, .of h1, g1, ι0, H0, O, ι2, ρ, S2, (st.step t B).step t2 B2, oRO_post ((st.step t B).step t2 B2) k2 fun y S3 w ι3 H3 t3 B3 r3 k3 => ?_⟩
            split at k3
            · rename_i l3 xs3 ww hx3
              obtain ⟨a3, vs3, e1, e2, q1, q2, q3, q4⟩ := lstV_read B3 (rx2.mono t3.sub t3.pre) hx3
              cases e1
              cases e2
              cases r3 with
              | p r3 =>
                cases r3
                split at k3
                · rename_i j hj
                  obtain ⟨B4, t4⟩ := lstW B3 (vs := vs3.set j (.int (u z ww))) (xs := xs3.set j (.p (.int (u z ww)))) q1 (by rw [List.length_set]; exact q3) (q4.set (.p (.int _)) j)
                  exact ⟨z, ww, rfl, rfl, a, vs3, kk, j, rfl, rfl, q2, by rw [q4.length]; exact hj, k3 ι3 σ _ ((((st.step t B).step t2 B2).step t3 B3).step t4 B4)⟩
                · exact k3.elim
            · exact k3.elim
        · exact k2.elim
    · exact k2.elim⟩⟩
end
end PD
namespace PD
open PySem PySem.Spec PyProof.Rows L2
theorem passesF {X : Cx} : Passes (L2N.CX X.prog X.w) X (fun _ _ _ => False) := fun _ σ _ _ _ _ I h => lets0 σ _ _ _ _ _ I (by
  first
  | exact h
  | (unfold L2.WE W0; exact h))
end PD
set_option Elab.async false
set_option linter.all false
set_option maxRecDepth 100000
set_option maxHeartbeats 4000000
namespace LW
open PySem PySem.Spec PyProof.Rows L2 PD
def b_law_draws_1 : Sn := (gIf (dAnd (dAsB (dVar 3)) (dAsB (dTwo oGt (dVar 2) (dC (.int 0))))) (gSeq (gApp 5 (dTwo oMod (dArg bInt (dCons (dVar 2) dNil)) (dC (.int 5040)))) (gSet (dTwo oDiv (dVar 2) (dC (.int 5040))) (.nm 2))) (gSeq (gSet (dTwo oMod (dArg bInt (dCons (dTwo oAdd (dTwo oAdd (dTwo oMul (dVar 4) (dC (.int 48271))) (dTwo oMul (dTwo oAdd (dVar 6) (dC (.int 1))) (dC (.int 69621)))) (dC (.int 11))) dNil)) (dC (.int 2147483647))) (.nm 7)) (gSeq (gSet (dTwo oMod (dArg bInt (dCons (dTwo oAdd (dTwo oMul (dVar 7) (dVar 7)) (dTwo oMul (dC (.int 40692)) (dTwo oAdd (dVar 6) (dC (.int 3))))) dNil)) (dC (.int 2147483399))) (.nm 7)) (gApp 5 (dTwo oMod (dArg bInt (dCons (dTwo oDiv (dVar 7) (dC (.int 64))) dNil)) (dC (.int 5040)))))))
def g_law_draws : Sn := (gSeq (gSet (dArg bAbs (dCons (dArg bInt (dCons (dVar 0) dNil)) dNil)) (.nm 2)) (gSeq (gSet (dTwo oGe (dVar 2) (dTwo oPow (dC (.int 10)) (dC (.int 18)))) (.nm 3)) (gSeq (gSet (dVar 2) (.nm 4)) (gSeq (gOwn (dLst dNil) 5) (gSeq (gFor (dRng1 (dCons (dVar 1) dNil)) (.nm 6) b_law_draws_1) (gFrz 5 (gRet (dVar 5))))))))
def m_law_draws : List PyData → R PyData := runD 8 2 g_law_draws
def g_law_cell : Sn := (gSeq (gIf (dAsB (dTwo oLt (dVar 1) (dArg bLen (dCons (dVar 0) dNil)))) (gRet (dTwo oIx (dVar 0) (dVar 1))) gSkip) (gRet (dTwo oAdd (dTwo oMul (dC (.int 5)) (dVar 1)) (dC (.int 3)))))
def m_law_cell : List PyData → R PyData := runD 2 2 g_law_cell
def b_law_parts_of_1 : Sn := (gSet (dTwo oAdd (dVar 1) (dLc (dItems (dVar 1)) (.nm 3) dYes (dTwo oAdd (dVar 3) (dTup (dCons (dVar 2) dNil))) [3])) (.nm 1))
def g_law_parts_of : Sn := (gSeq (gSet (dLst (dCons (dTup dNil) dNil)) (.nm 1)) (gSeq (gFor (dRng1 (dCons (dVar 0) dNil)) (.nm 2) b_law_parts_of_1) (gRet (dArg bSorted (dCons (dVar 1) dNil)))))
def m_law_parts_of : List PyData → R PyData := runD 4 1 g_law_parts_of
def g_law_count : Sn := (gRet (dArg bLen (dCons (dLc (dItems (dVar 0)) (.nm 3) (dAsB (dTwo oEq (dTwo oIx (dVar 1) (dVar 3)) (dVar 2))) (dVar 3) [3]) dNil)))
def m_law_count : List PyData → R PyData := runD 4 3 g_law_count
def g_law_within : Sn := (gRet (dArg bAll (dCons (dLc (dItems (dVar 0)) (.nm 2) dYes (dTwo oIn (dVar 2) (dVar 1)) [2]) dNil)))
def m_law_within : List PyData → R PyData := runD 3 2 g_law_within
def b_law_antichain_1 : Sn := (gIf (dThawB (dAnd (dAsB (dTwo oNotIn (dVar 2) (dVar 1))) (dNot (dAsB (dArg bAny (dCons (dLc (dItems (dVar 0)) (.nm 3) dYes (dAndV (dTwo oNe (dVar 2) (dVar 3)) (dArg m_law_within (dCons (dVar 2) (dCons (dVar 3) dNil)))) [3]) dNil)))))) (gApp 1 (dVar 2)) gSkip)
def g_law_antichain : Sn := (gSeq (gOwn (dLst dNil) 1) (gSeq (gFor (dItems (dArg bSorted (dCons (dVar 0) dNil))) (.nm 2) b_law_antichain_1) (gFrz 1 (gRet (dArg bTuple (dCons (dVar 1) dNil))))))
def m_law_antichain : List PyData → R PyData := runD 4 1 g_law_antichain
def g_leave_out : Sn := (gRet (dArg bTuple (dCons (dLc (dItems (dVar 0)) (.nm 2) (dAsB (dTwo oNe (dVar 2) (dVar 1))) (dVar 2) [2]) dNil)))
def m_leave_out : List PyData → R PyData := runD 3 2 g_leave_out
def g_law_is_integer : Sn := (gRet (dAndV (dOne (oIsi "int") (dVar 0)) (dNotV (dOne (oIsi "bool") (dVar 0)))))
def m_law_is_integer : List PyData → R PyData := runD 1 1 g_law_is_integer
def b_law_is_set_1 : Sn := (gSeq (gIf (dOr (dNot (dAsB (dArg m_law_is_integer (dCons (dTwo oIx (dVar 0) (dVar 2)) dNil)))) (dOr (dAsB (dTwo oLt (dTwo oIx (dVar 0) (dVar 2)) (dC (.int 0)))) (dAsB (dTwo oGe (dTwo oIx (dVar 0) (dVar 2)) (dVar 1))))) (gRet (dC (.bool false))) gSkip) (gIf (dAnd (dAsB (dTwo oGt (dVar 2) (dC (.int 0)))) (dAsB (dTwo oLe (dTwo oIx (dVar 0) (dVar 2)) (dTwo oIx (dVar 0) (dTwo oSub (dVar 2) (dC (.int 1))))))) (gRet (dC (.bool false))) gSkip))
def g_law_is_set : Sn := (gSeq (gIf (dNot (dAsB (dOne (oIsi "tuple") (dVar 0)))) (gRet (dC (.bool false))) gSkip) (gSeq (gFor (dRng1 (dCons (dArg bLen (dCons (dVar 0) dNil)) dNil)) (.nm 2) b_law_is_set_1) (gRet (dC (.bool true)))))
def m_law_is_set : List PyData → R PyData := runD 3 2 g_law_is_set
def g_law_exchanged : Sn := (gRet (dArg bTuple (dCons (dArg bSorted (dCons (dTwo oAdd (dLc (dItems (dVar 0)) (.nm 3) (dAsB (dTwo oNe (dVar 3) (dVar 1))) (dVar 3) [3]) (dLst (dCons (dVar 2) dNil))) dNil)) dNil)))
def m_law_exchanged : List PyData → R PyData := runD 4 3 g_law_exchanged
def g_put_in : Sn := (gRet (dArg bTuple (dCons (dArg bSorted (dCons (dTwo oAdd (dVar 0) (dTup (dCons (dVar 1) dNil))) dNil)) dNil)))
def m_put_in : List PyData → R PyData := runD 2 2 g_put_in
def g_exchange : Sn := (gRet (dArg m_put_in (dCons (dArg m_leave_out (dCons (dVar 0) (dCons (dVar 1) dNil))) (dCons (dVar 2) dNil))))
def m_exchange : List PyData → R PyData := runD 3 3 g_exchange
end LW
set_option Elab.async false
set_option linter.all false
set_option maxRecDepth 100000
set_option maxHeartbeats 4000000
namespace LW
open PySem PySem.Spec PyProof.Rows L2 PD
def b_law_bounded_lots_1 : Sn := (gIf (dAsB (dArg bAll (dCons (dLc (dRng1 (dCons (dC (.int 3)) dNil)) (.nm 9) dYes (dTwo oLe (dArg m_law_count (dCons (dVar 5) (dCons (dVar 2) (dCons (dVar 9) dNil)))) (dTwo oIx (dVar 3) (dVar 9))) [9]) dNil))) (gApp 4 (dVar 5)) gSkip)
def g_law_bounded_lots : Sn := (gSeq (gSet (dLc (dRng1 (dCons (dVar 1) dNil)) (.nm 8) dYes (dTwo oMod (dArg bInt (dCons (dTwo oIx (dVar 0) (dTwo oAdd (dC (.int 3)) (dVar 8))) dNil)) (dC (.int 3))) [8]) (.nm 2)) (gSeq (gSet (dLst (dCons (dTwo oAdd (dC (.int 1)) (dTwo oMod (dArg bInt (dCons (dTwo oIx (dVar 0) (dC (.int 2))) dNil)) (dC (.int 2)))) (dCons (dTwo oAdd (dC (.int 1)) (dTwo oMod (dTwo oDiv (dArg bInt (dCons (dTwo oIx (dVar 0) (dC (.int 2))) dNil)) (dC (.int 2))) (dC (.int 2)))) (dCons (dTwo oMod (dTwo oDiv (dArg bInt (dCons (dTwo oIx (dVar 0) (dC (.int 2))) dNil)) (dC (.int 4))) (dC (.int 3))) dNil)))) (.nm 3)) (gSeq (gOwn (dLst dNil) 4) (gSeq (gFor (dItems (dArg m_law_parts_of (dCons (dVar 1) dNil))) (.nm 5) b_law_bounded_lots_1) (gFrz 4 (gSeq (gSet (dArg bMax (dCons (dLc (dItems (dVar 4)) (.nm 5) dYes (dArg bLen (dCons (dVar 5) dNil)) [5]) dNil)) (.nm 6)) (gSeq (gSet (dArg bMin2 (dCons (dVar 6) (dCons (dTwo oIx (dTup (dCons (dC (.int 2)) (dCons (dC (.int 1)) (dCons (dC (.int 2)) (dCons (dC (.int 3)) (dCons (dC (.int 1)) (dCons (dC (.int 2)) (dCons (dC (.int 0)) (dCons (dC (.int 3)) dNil))))))))) (dTwo oMod (dArg bInt (dCons (dTwo oIx (dVar 0) (dC (.int 1))) dNil)) (dC (.int 8)))) dNil))) (.nm 7)) (gRet (dArg bTuple (dCons (dLc (dItems (dVar 4)) (.nm 5) (dAsB (dTwo oEq (dArg bLen (dCons (dVar 5) dNil)) (dVar 7))) (dVar 5) [5]) dNil))))))))))
def m_law_bounded_lots : List PyData → R PyData := runD 10 2 g_law_bounded_lots
def b_law_is_forest_1 : Sn := (gSeq (gSet (dTwo oIx (dVar 3) (dTwo oIx (dTwo oIx (dVar 1) (dVar 4)) (dC (.int 0)))) (.nm 5)) (gSeq (gSet (dTwo oIx (dVar 3) (dTwo oIx (dTwo oIx (dVar 1) (dVar 4)) (dC (.int 1)))) (.nm 6)) (gSeq (gIf (dAsB (dTwo oEq (dVar 5) (dVar 6))) (gRet (dC (.bool false))) gSkip) (gSet (dLc (dItems (dVar 3)) (.nm 7) dYes (dIf (dAsB (dTwo oEq (dVar 7) (dVar 5))) (dVar 6) (dVar 7)) [7]) (.nm 3)))))
def g_law_is_forest : Sn := (gSeq (gSet (dOne bLstR1 (dVar 2)) (.nm 3)) (gSeq (gFor (dItems (dVar 0)) (.nm 4) b_law_is_forest_1) (gRet (dC (.bool true)))))
def m_law_is_forest : List PyData → R PyData := runD 8 3 g_law_is_forest
def b_law_forest_lots_1 : Sn := (gSeq (gSet (dArg bInt (dCons (dTwo oIx (dVar 0) (dTwo oAdd (dC (.int 2)) (dVar 4))) dNil)) (.nm 5)) (gApp 3 (dTup (dCons (dTwo oMod (dVar 5) (dVar 2)) (dCons (dTwo oMod (dTwo oDiv (dVar 5) (dVar 2)) (dVar 2)) dNil)))))
def g_law_forest_lots : Sn := (gSeq (gSet (dTwo oAdd (dC (.int 2)) (dTwo oMod (dArg bInt (dCons (dTwo oIx (dVar 0) (dC (.int 1))) dNil)) (dC (.int 3)))) (.nm 2)) (gSeq (gOwn (dLst dNil) 3) (gSeq (gFor (dRng1 (dCons (dVar 1) dNil)) (.nm 4) b_law_forest_lots_1) (gFrz 3 (gSeq (gSet (dLc (dItems (dArg m_law_parts_of (dCons (dVar 1) dNil))) (.nm 8) (dAsB (dArg m_law_is_forest (dCons (dVar 8) (dCons (dVar 3) (dCons (dVar 2) dNil))))) (dVar 8) [8]) (.nm 6)) (gSeq (gSet (dArg bMax (dCons (dLc (dItems (dVar 6)) (.nm 8) dYes (dArg bLen (dCons (dVar 8) dNil)) [8]) dNil)) (.nm 7)) (gRet (dArg bTuple (dCons (dLc (dItems (dVar 6)) (.nm 8) (dAsB (dTwo oEq (dArg bLen (dCons (dVar 8) dNil)) (dVar 7))) (dVar 8) [8]) dNil)))))))))
def m_law_forest_lots : List PyData → R PyData := runD 9 2 g_law_forest_lots
def g_law_rest_of : Sn := (gRet (dArg bTuple (dCons (dLc (dRng1 (dCons (dVar 1) dNil)) (.nm 2) (dAsB (dTwo oNotIn (dVar 2) (dVar 0))) (dVar 2) [2]) dNil)))
def m_law_rest_of : List PyData → R PyData := runD 3 2 g_law_rest_of
def g_law_smooth_lots_k03 : Sn := (gSeq (gSet (dArg m_law_draws (dCons (dVar 0) (dCons (dTwo oAdd (dC (.int 3)) (dVar 1)) dNil))) (.nm 2)) (gSeq (gSet (dTwo oMod (dArg bInt (dCons (dTwo oIx (dVar 2) (dC (.int 0))) dNil)) (dC (.int 6))) (.nm 3)) (gSeq (gIf (dAsB (dTwo oLt (dVar 3) (dC (.int 4)))) (gSet (dArg m_law_bounded_lots (dCons (dVar 2) (dCons (dVar 1) dNil))) (.nm 4)) (gSet (dArg m_law_forest_lots (dCons (dVar 2) (dCons (dVar 1) dNil))) (.nm 4))) (gSeq (gIf (dOr (dAsB (dTwo oEq (dVar 3) (dC (.int 3)))) (dAsB (dTwo oEq (dVar 3) (dC (.int 5))))) (gSet (dArg bTuple (dCons (dArg bSorted (dCons (dLc (dItems (dVar 4)) (.nm 5) dYes (dArg m_law_rest_of (dCons (dVar 5) (dCons (dVar 1) dNil))) [5]) dNil)) dNil)) (.nm 4)) gSkip) (gRet (dVar 4))))))
def m_law_smooth_lots_k03 : List PyData → R PyData := runD 6 2 g_law_smooth_lots_k03
end LW
set_option Elab.async false
set_option linter.all false
set_option maxRecDepth 100000
set_option maxHeartbeats 4000000
set_option Elab.async false
set_option linter.all false
set_option maxRecDepth 100000
set_option maxHeartbeats 4000000
namespace LW
open PySem PySem.Spec PyProof.Rows L2 PD
def g_cost_at : Sn := (gRet (dTwo oIx (dTwo oIx (dVar 0) (dVar 1)) (dTwo oSub (dVar 2) (dC (.int 1)))))
def m_cost_at : List PyData → R PyData := runD 3 3 g_cost_at
end LW
set_option Elab.async false
set_option linter.all false
set_option maxRecDepth 100000
set_option maxHeartbeats 4000000
set_option Elab.async false
set_option linter.all false
set_option maxRecDepth 100000
set_option maxHeartbeats 4000000
namespace LW
open PySem PySem.Spec PyProof.Rows L2 PD
def g_fewer_by_one : Sn := (gRet (dLc (dItems (dVar 0)) (.nm 1) dYes (dArg m_leave_out (dCons (dVar 0) (dCons (dVar 1) dNil))) [1]))
def m_fewer_by_one : List PyData → R PyData := runD 2 1 g_fewer_by_one
def b_free_sets_1 : Sn := (gSeq (gSetPop 3 2) (gIf (dThawB (dAsB (dTwo oNotInT (dVar 3) (dVar 1)))) (gSeq (gPutD 1 (dVar 3)) (gExt 2 (dArg m_fewer_by_one (dCons (dVar 3) dNil)))) gSkip))
def g_free_sets : Sn := (gSeq (gNewD 1) (gSeq (gOwn (dArg bList (dCons (dTwo oIx (dVar 0) (dC (.int 1))) dNil)) 2) (gSeq (gWhile (dThawB (dAsB (dTwo oGt (dArg bLen (dCons (dVar 2) dNil)) (dC (.int 0))))) b_free_sets_1 (fun _ => 1000000)) (gFrzD 1 (gRet (dVar 1))))))
def m_free_sets : List PyData → R PyData := runD 4 1 g_free_sets
end LW
set_option Elab.async false
set_option linter.all false
set_option maxRecDepth 100000
set_option maxHeartbeats 4000000
set_option Elab.async false
set_option linter.all false
set_option maxRecDepth 100000
set_option maxHeartbeats 4000000
namespace LW
open PySem PySem.Spec PyProof.Rows L2 PD
def b_law_costs_k79_1 : Sn := (gSeq (gIf (dAsB (dTwo oGt (dVar 10) (dC (.int 0)))) (gSet (dTwo oAdd (dVar 7) (dTwo oIx (dTup (dCons (dC (.int 0)) (dCons (dC (.int 1)) (dCons (dC (.int 3)) (dCons (dC (.int 0)) (dCons (dC (.int 8)) (dCons (dC (.int 2)) dNil))))))) (dTwo oMod (dArg bInt (dCons (dTwo oIx (dVar 4) (dTwo oAdd (dTwo oMul (dVar 6) (dVar 2)) (dVar 10))) dNil)) (dC (.int 6))))) (.nm 7)) gSkip) (gIf (dAsB (dVar 3)) (gApp 9 (dTwo oAdd (dTwo oMul (dVar 7) (dTwo oPow (dC (.int 10)) (dC (.int 30)))) (dVar 8))) (gApp 9 (dVar 7))))
def b_law_costs_k79_2 : Sn := (gSeq (gSet (dTwo oSub (dTwo oMod (dArg bInt (dCons (dTwo oIx (dVar 4) (dTwo oMul (dVar 6) (dVar 2))) dNil)) (dC (.int 9))) (dC (.int 3))) (.nm 7)) (gSeq (gSet (dTwo oMod (dTwo oDiv (dArg bInt (dCons (dTwo oIx (dVar 4) (dTwo oMul (dVar 6) (dVar 2))) dNil)) (dC (.int 9))) (dC (.int 3))) (.nm 8)) (gSeq (gOwn (dLst dNil) 9) (gSeq (gFor (dRng1 (dCons (dVar 2) dNil)) (.nm 10) b_law_costs_k79_1) (gFrz 9 (gApp 5 (dArg bTuple (dCons (dVar 9) dNil))))))))
def g_law_costs_k79 : Sn := (gSeq (gSet (dArg m_law_draws (dCons (dVar 0) (dCons (dTwo oAdd (dTwo oMul (dVar 1) (dVar 2)) (dC (.int 1))) dNil))) (.nm 4)) (gSeq (gOwn (dLst dNil) 5) (gSeq (gFor (dRng1 (dCons (dVar 1) dNil)) (.nm 6) b_law_costs_k79_2) (gFrz 5 (gRet (dArg bTuple (dCons (dVar 5) dNil)))))))
def m_law_costs_k79 : List PyData → R PyData := runD 11 4 g_law_costs_k79
def g_law_any_lots_k79 : Sn := (gSeq (gSet (dArg m_law_draws (dCons (dVar 0) (dCons (dC (.int 9)) dNil))) (.nm 2)) (gSeq (gSet (dArg m_law_parts_of (dCons (dVar 1) dNil)) (.nm 3)) (gSeq (gSet (dLc (dRng1 (dCons (dTwo oAdd (dC (.int 1)) (dTwo oMod (dArg bInt (dCons (dTwo oIx (dVar 2) (dC (.int 2))) dNil)) (dC (.int 6)))) dNil)) (.nm 5) dYes (dTwo oIx (dVar 3) (dTwo oMod (dArg bInt (dCons (dTwo oIx (dVar 2) (dTwo oAdd (dC (.int 3)) (dVar 5))) dNil)) (dArg bLen (dCons (dVar 3) dNil)))) [5]) (.nm 4)) (gRet (dArg m_law_antichain (dCons (dVar 4) dNil))))))
def m_law_any_lots_k79 : List PyData → R PyData := runD 6 2 g_law_any_lots_k79
def g_law_lots_k79 : Sn := (gSeq (gSet (dArg m_law_draws (dCons (dVar 0) (dCons (dC (.int 2)) dNil))) (.nm 2)) (gSeq (gIf (dAsB (dTwo oEq (dTwo oMod (dTwo oDiv (dArg bInt (dCons (dTwo oIx (dVar 2) (dC (.int 1))) dNil)) (dC (.int 8))) (dC (.int 2))) (dC (.int 0)))) (gRet (dArg m_law_smooth_lots_k03 (dCons (dVar 0) (dCons (dVar 1) dNil)))) gSkip) (gRet (dArg m_law_any_lots_k79 (dCons (dVar 0) (dCons (dVar 1) dNil))))))
def m_law_lots_k79 : List PyData → R PyData := runD 3 2 g_law_lots_k79
end LW
set_option Elab.async false
set_option linter.all false
set_option maxRecDepth 100000
set_option maxHeartbeats 4000000
set_option Elab.async false
set_option linter.all false
set_option maxRecDepth 100000
set_option maxHeartbeats 4000000
set_option Elab.async false
set_option linter.all false
set_option maxRecDepth 100000
set_option maxHeartbeats 4000000
set_option Elab.async false
set_option linter.all false
set_option maxRecDepth 100000
set_option maxHeartbeats 4000000
namespace LW
open PySem PySem.Spec PyProof.Rows L2 PD
def b_law_game_k86_1 : Sn := (gSeq (gSet (dArg m_law_cell (dCons (dVar 0) (dCons (dTwo oAdd (dTwo oAdd (dVar 1) (dC (.int 1))) (dTwo oMul (dC (.int 2)) (dVar 7))) dNil))) (.nm 8)) (gSeq (gIf (dAsB (dVar 2)) (gSet (dArg m_law_smooth_lots_k03 (dCons (dVar 8) (dCons (dVar 5) dNil))) (.nm 9)) (gSet (dArg m_law_lots_k79 (dCons (dVar 8) (dCons (dVar 5) dNil))) (.nm 9))) (gSeq (gSet (dTwo oAdd (dVar 4) (dTwo oMod (dArg bInt (dCons (dTwo oIx (dVar 3) (dC (.int 2))) dNil)) (dC (.int 2)))) (.nm 10)) (gSeq (gSet (dArg m_law_costs_k79 (dCons (dArg m_law_cell (dCons (dVar 0) (dCons (dTwo oAdd (dTwo oAdd (dVar 1) (dC (.int 2))) (dTwo oMul (dC (.int 2)) (dVar 7))) dNil))) (dCons (dVar 5) (dCons (dVar 10) (dCons (dTwo oEq (dTwo oMod (dArg bInt (dCons (dTwo oIx (dVar 3) (dC (.int 3))) dNil)) (dC (.int 8))) (dC (.int 1))) dNil))))) (.nm 11)) (gApp 6 (dTup (dCons (dTup (dCons (dVar 5) (dCons (dVar 9) dNil))) (dCons (dVar 11) dNil))))))))
def g_law_game_k86 : Sn := (gSeq (gSet (dArg m_law_draws (dCons (dArg m_law_cell (dCons (dVar 0) (dCons (dVar 1) dNil))) (dCons (dC (.int 4)) dNil))) (.nm 3)) (gSeq (gSet (dTwo oIx (dTup (dCons (dC (.int 1)) (dCons (dC (.int 2)) (dCons (dC (.int 2)) (dCons (dC (.int 2)) (dCons (dC (.int 3)) (dCons (dC (.int 3)) (dCons (dC (.int 2)) (dCons (dC (.int 0)) dNil))))))))) (dTwo oMod (dArg bInt (dCons (dTwo oIx (dVar 3) (dC (.int 0))) dNil)) (dC (.int 8)))) (.nm 4)) (gSeq (gSet (dTwo oIx (dTup (dCons (dC (.int 3)) (dCons (dC (.int 4)) (dCons (dC (.int 3)) (dCons (dC (.int 2)) (dCons (dC (.int 3)) (dCons (dC (.int 1)) (dCons (dC (.int 4)) (dCons (dC (.int 0)) dNil))))))))) (dTwo oMod (dArg bInt (dCons (dTwo oIx (dVar 3) (dC (.int 1))) dNil)) (dC (.int 8)))) (.nm 5)) (gSeq (gOwn (dLst dNil) 6) (gSeq (gFor (dRng1 (dCons (dVar 4) dNil)) (.nm 7) b_law_game_k86_1) (gFrz 6 (gRet (dArg bTuple (dCons (dVar 6) dNil)))))))))
def m_law_game_k86 : List PyData → R PyData := runD 12 3 g_law_game_k86
end LW
set_option Elab.async false
set_option linter.all false
set_option maxRecDepth 100000
set_option maxHeartbeats 4000000
namespace LW
open PySem PySem.Spec PyProof.Rows L2 PD
def g_law_size : Sn := (gSeq (gIf (dAsB (dTwo oEq (dArg bLen (dCons (dVar 0) dNil)) (dC (.int 0)))) (gRet (dC (.int 0))) gSkip) (gRet (dTwo oIx (dTwo oIx (dTwo oIx (dVar 0) (dC (.int 0))) (dC (.int 0))) (dC (.int 0)))))
def m_law_size : List PyData → R PyData := runD 1 1 g_law_size
def g_law_is_free : Sn := (gRet (dArg bAny (dCons (dLc (dItems (dVar 0)) (.nm 2) dYes (dArg m_law_within (dCons (dVar 1) (dCons (dVar 2) dNil))) [2]) dNil)))
def m_law_is_free : List PyData → R PyData := runD 3 2 g_law_is_free
def g_law_cost : Sn := (gSeq (gSet (dArg bLen (dCons (dLc (dItems (dVar 1)) (.nm 6) (dAsB (dTwo oIn (dVar 3) (dVar 6))) (dVar 6) [6]) dNil)) (.nm 5)) (gRet (dTwo oIx (dTwo oIx (dTwo oIx (dTwo oIx (dVar 0) (dVar 2)) (dC (.int 1))) (dVar 3)) (dTwo oSub (dTwo oAdd (dVar 5) (dVar 4)) (dC (.int 1))))))
def m_law_cost : List PyData → R PyData := runD 7 5 g_law_cost
def g_law_step : Sn := (gSeq (gSet (dTwo oIx (dVar 2) (dC (.int 0))) (.nm 3)) (gSeq (gSet (dTwo oIx (dVar 2) (dC (.int 1))) (.nm 4)) (gSeq (gSet (dTwo oIx (dVar 2) (dC (.int 2))) (.nm 5)) (gSeq (gSet (dTwo oIx (dVar 1) (dVar 3)) (.nm 6)) (gSeq (gIf (dAsB (dTwo oIn (dVar 5) (dVar 6))) (gRet (dC .none)) gSkip) (gSeq (gIf (dAsB (dOne (fun d => .ok (.bool (isNone d))) (dVar 4))) (gSet (dArg bTuple (dCons (dArg bSorted (dCons (dTwo oAdd (dVar 6) (dTup (dCons (dVar 5) dNil))) dNil)) dNil)) (.nm 7)) (gIf (dAsB (dTwo oNotIn (dVar 4) (dVar 6))) (gRet (dC .none)) (gIf (dAsB (dTwo oLt (dArg m_law_cost (dCons (dVar 0) (dCons (dVar 1) (dCons (dVar 3) (dCons (dVar 5) (dCons (dC (.int 1)) dNil)))))) (dArg m_law_cost (dCons (dVar 0) (dCons (dVar 1) (dCons (dVar 3) (dCons (dVar 4) (dCons (dC (.int 0)) dNil)))))))) (gSet (dArg m_law_exchanged (dCons (dVar 6) (dCons (dVar 4) (dCons (dVar 5) dNil)))) (.nm 7)) (gRet (dC .none))))) (gSeq (gIf (dNot (dAsB (dArg m_law_is_free (dCons (dTwo oIx (dTwo oIx (dTwo oIx (dVar 0) (dVar 3)) (dC (.int 0))) (dC (.int 1))) (dCons (dVar 7) dNil))))) (gRet (dC .none)) gSkip) (gRet (dTwo oAdd (dTwo oAdd (dCut (dVar 1) dNoP (dPart (dVar 3))) (dTup (dCons (dVar 7) dNil))) (dCut (dVar 1) (dPart (dTwo oAdd (dVar 3) (dC (.int 1)))) dNoP))))))))))
def m_law_step : List PyData → R PyData := runD 8 3 g_law_step
def b_law_all_moves_1 : Sn := (gApp 2 (dTup (dCons (dVar 3) (dCons (dVar 4) (dCons (dVar 5) dNil)))))
def b_law_all_moves_2 : Sn := (gFor (dRng1 (dCons (dVar 1) dNil)) (.nm 5) b_law_all_moves_1)
def b_law_all_moves_3 : Sn := (gFor (dItems (dTwo oAdd (dLst (dCons (dC .none) dNil)) (dOne bLstR1 (dVar 1)))) (.nm 4) b_law_all_moves_2)
def g_law_all_moves : Sn := (gSeq (gOwn (dLst dNil) 2) (gSeq (gFor (dRng1 (dCons (dVar 0) dNil)) (.nm 3) b_law_all_moves_3) (gFrz 2 (gRet (dVar 2)))))
def m_law_all_moves : List PyData → R PyData := runD 6 2 g_law_all_moves
def b_law_grown_1 : Sn := (gSeq (gSet (dLc (dItems (dArg m_law_all_moves (dCons (dArg bLen (dCons (dVar 0) dNil)) (dCons (dVar 2) dNil)))) (.nm 9) (dAsB (dOne (fun d => .ok (.bool (!isNone d))) (dArg m_law_step (dCons (dVar 0) (dCons (dVar 3) (dCons (dVar 9) dNil)))))) (dVar 9) [9]) (.nm 7)) (gSeq (gSet (dLc (dItems (dVar 7)) (.nm 9) (dAsB (dOne (fun d => .ok (.bool (!isNone d))) (dTwo oIx (dVar 9) (dC (.int 1))))) (dVar 9) [9]) (.nm 8)) (gSeq (gIf (dAnd (dAsB (dTwo oGt (dArg bLen (dCons (dVar 8) dNil)) (dC (.int 0)))) (dAsB (dTwo oEq (dTwo oMod (dArg bInt (dCons (dTwo oIx (dVar 1) (dTwo oAdd (dC (.int 1)) (dVar 6))) dNil)) (dC (.int 2))) (dC (.int 0))))) (gSet (dVar 8) (.nm 7)) gSkip) (gSeq (gIf (dAsB (dTwo oEq (dArg bLen (dCons (dVar 7) dNil)) (dC (.int 0)))) gBrk gSkip) (gSeq (gSet (dTwo oIx (dVar 7) (dTwo oMod (dTwo oDiv (dArg bInt (dCons (dTwo oIx (dVar 1) (dTwo oAdd (dC (.int 1)) (dVar 6))) dNil)) (dC (.int 2))) (dArg bLen (dCons (dVar 7) dNil)))) (.nm 9)) (gSeq (gSet (dArg m_law_step (dCons (dVar 0) (dCons (dVar 3) (dCons (dVar 9) dNil)))) (.nm 3)) (gSeq (gApp 5 (dVar 9)) (gApp 4 (dVar 3)))))))))
def g_law_grown : Sn := (gSeq (gSet (dArg bTuple (dCons (dLc (dItems (dVar 0)) (.nm 10) dYes (dTup dNil) [10]) dNil)) (.nm 3)) (gSeq (gOwn (dLst (dCons (dVar 3) dNil)) 4) (gSeq (gOwn (dLst dNil) 5) (gSeq (gFor (dRng1 (dCons (dTwo oMod (dArg bInt (dCons (dTwo oIx (dVar 1) (dC (.int 0))) dNil)) (dC (.int 13))) dNil)) (.nm 6) b_law_grown_1) (gFrz 5 (gFrz 4 (gRet (dTup (dCons (dArg bTuple (dCons (dVar 5) dNil)) (dCons (dVar 4) dNil))))))))))
def m_law_grown : List PyData → R PyData := runD 11 3 g_law_grown
def g_law_are_sets_k65 : Sn := (gSeq (gIf (dOr (dNot (dAsB (dOne (oIsi "tuple") (dVar 0)))) (dAsB (dTwo oNe (dVar 0) (dVar 1)))) (gRet (dC (.bool false))) gSkip) (gRet (dArg bAll (dCons (dLc (dItems (dVar 0)) (.nm 3) dYes (dArg m_law_is_set (dCons (dVar 3) (dCons (dVar 2) dNil))) [3]) dNil))))
def m_law_are_sets_k65 : List PyData → R PyData := runD 4 3 g_law_are_sets_k65
def g_count_sets : Sn := (gRet (dLc (dRng1 (dCons (dVar 0) dNil)) (.nm 2) dYes (dArg bLen (dCons (dLc (dItems (dVar 1)) (.nm 3) (dAsB (dTwo oIn (dVar 2) (dVar 3))) (dVar 3) [3]) dNil)) [2]))
def m_count_sets : List PyData → R PyData := runD 4 2 g_count_sets
def o_count_sets : MO := runO 4 2 (sRet (oMaskL (dLc (dRng1 (dCons (dVar 0) dNil)) (.nm 2) dYes (dArg bLen (dCons (dLc (dItems (dVar 1)) (.nm 3) (dAsB (dTwo oIn (dVar 2) (dVar 3))) (dVar 3) [3]) dNil)) [2])))
def g_Moment___init__ (c_Moment : Addr) : SO := (sSeq (sFldS c_Moment "costs" (oVar 0) (oMaskL (dLc (dItems (dVar 2)) (.tp [(.nm 4), (.nm 5)]) dYes (dVar 5) [4, 5]))) (sSeq (sFldS c_Moment "free" (oVar 0) (oMaskL (dLc (dItems (dVar 2)) (.tp [(.nm 6), (.nm 4)]) dYes (dArg m_free_sets (dCons (dVar 6) dNil)) [6, 4]))) (sSeq (sFldS c_Moment "sets" (oVar 0) (oMaskL (dArg bList (dCons (dVar 3) dNil)))) (sFldS c_Moment "counts" (oVar 0) (oArg o_count_sets (oCons (oMask (dVar 1)) (oCons (oMask (dVar 3)) oNil)))))))
def m_Moment___init__ (c_Moment : Addr) : MO := runO 7 4 (g_Moment___init__ c_Moment)
def g_empty_moment (c_Moment : Addr) : SO := (sSeq (sSet (oMask (dIf (dAsB (dTwo oGt (dArg bLen (dCons (dVar 0) dNil)) (dC (.int 0)))) (dTwo oIx (dTwo oIx (dTwo oIx (dVar 0) (dC (.int 0))) (dC (.int 0))) (dC (.int 0))) (dC (.int 0)))) (.nm 1)) (sRet (oMake c_Moment (m_Moment___init__ c_Moment) (oCons (oMask (dVar 1)) (oCons (oMask (dVar 0)) (oCons (oMask (dLc (dItems (dVar 0)) (.nm 2) dYes (dTup dNil) [2])) oNil))))))
def m_empty_moment (c_Moment : Addr) : MO := runO 3 1 (g_empty_moment c_Moment)
def g_Moment_make (c_Moment : Addr) : SO := (sSeq (sSet (oMask (dVar 1)) (.tp [(.nm 2), (.nm 3), (.nm 4)])) (sSeq (sSet (oIxO (oFld c_Moment "sets" (oVar 0)) (oMask (dVar 2))) (.nm 5)) (sSeq (sIf (oMaskB (dAsB (dOne (fun d => .ok (.bool (!isNone d))) (dVar 3)))) (sSeq (sSet (oMask (dArg m_leave_out (dCons (dVar 5) (dCons (dVar 3) dNil)))) (.nm 5)) (sAugAtI (fun i j => i - j) (oFld c_Moment "counts" (oVar 0)) (oMask (dVar 3)) (oMask (dC (.int 1))))) sSkip) (sSeq (sSetAt (oFld c_Moment "sets" (oVar 0)) (oMask (dVar 2)) (oMask (dArg m_put_in (dCons (dVar 5) (dCons (dVar 4) dNil))))) (sAugAt (oFld c_Moment "counts" (oVar 0)) (oMask (dVar 4)) (oMask (dC (.int 1))))))))
def m_Moment_make (c_Moment : Addr) : MO := runO 6 2 (g_Moment_make c_Moment)
def g_Moment_can_add (c_Moment : Addr) : Sn := (gSeq (gSet (dTwo oIx (dAt c_Moment "sets" (dVar 0)) (dVar 1)) (.nm 3)) (gRet (dAndV (dTwo oNotIn (dVar 2) (dVar 3)) (dTwo oInT (dArg m_put_in (dCons (dVar 3) (dCons (dVar 2) dNil))) (dTwo oIx (dAt c_Moment "free" (dVar 0)) (dVar 1))))))
def m_Moment_can_add (c_Moment : Addr) : List PyData → R PyData := runD 4 3 (g_Moment_can_add c_Moment)
def g_Moment_cost_next (c_Moment : Addr) : Sn := (gRet (dArg m_cost_at (dCons (dTwo oIx (dAt c_Moment "costs" (dVar 0)) (dVar 1)) (dCons (dVar 2) (dCons (dTwo oAdd (dTwo oIx (dAt c_Moment "counts" (dVar 0)) (dVar 2)) (dC (.int 1))) dNil)))))
def m_Moment_cost_next (c_Moment : Addr) : List PyData → R PyData := runD 3 3 (g_Moment_cost_next c_Moment)
def g_Moment_cost_now (c_Moment : Addr) : Sn := (gRet (dArg m_cost_at (dCons (dTwo oIx (dAt c_Moment "costs" (dVar 0)) (dVar 1)) (dCons (dVar 2) (dCons (dTwo oIx (dAt c_Moment "counts" (dVar 0)) (dVar 2)) dNil)))))
def m_Moment_cost_now (c_Moment : Addr) : List PyData → R PyData := runD 3 3 (g_Moment_cost_now c_Moment)
def g_Moment_can_exchange (c_Moment : Addr) : Sn := (gSeq (gSet (dTwo oIx (dAt c_Moment "sets" (dVar 0)) (dVar 1)) (.nm 4)) (gSeq (gIf (dOr (dAsB (dTwo oNotIn (dVar 2) (dVar 4))) (dOr (dAsB (dTwo oIn (dVar 3) (dVar 4))) (dAsB (dTwo oNotInT (dArg m_exchange (dCons (dVar 4) (dCons (dVar 2) (dCons (dVar 3) dNil)))) (dTwo oIx (dAt c_Moment "free" (dVar 0)) (dVar 1)))))) (gRet (dC (.bool false))) gSkip) (gRet (dTwo oLt (dMethD c_Moment "cost_next" (m_Moment_cost_next c_Moment) (dVar 0) (dCons (dVar 1) (dCons (dVar 3) dNil))) (dMethD c_Moment "cost_now" (m_Moment_cost_now c_Moment) (dVar 0) (dCons (dVar 1) (dCons (dVar 2) dNil)))))))
def m_Moment_can_exchange (c_Moment : Addr) : List PyData → R PyData := runD 5 4 (g_Moment_can_exchange c_Moment)
def g_Moment_is_allowed (c_Moment : Addr) : Sn := (gSeq (gSet (dVar 1) (.tp [(.nm 2), (.nm 3), (.nm 4)])) (gRet (dIf (dAsB (dOne (fun d => .ok (.bool (isNone d))) (dVar 3))) (dMethD c_Moment "can_add" (m_Moment_can_add c_Moment) (dVar 0) (dCons (dVar 2) (dCons (dVar 4) dNil))) (dMethD c_Moment "can_exchange" (m_Moment_can_exchange c_Moment) (dVar 0) (dCons (dVar 2) (dCons (dVar 3) (dCons (dVar 4) dNil)))))))
def m_Moment_is_allowed (c_Moment : Addr) : List PyData → R PyData := runD 5 2 (g_Moment_is_allowed c_Moment)
end LW
set_option Elab.async false
set_option linter.all false
set_option maxRecDepth 100000
set_option maxHeartbeats 4000000
namespace LW
open PySem PySem.Spec PyProof.Rows L2 PD
noncomputable section
def g_replay_k66 (c_BadMove c_Moment : Addr) : SO := (sSeq (sSet (oArg (m_empty_moment c_Moment) (oCons (oMask (dVar 0)) oNil)) (.nm 2)) (sSeq (sFor (oMaskI (dEnum (dCons (dVar 1) dNil))) (.tp [(.nm 3), (.nm 4)]) (sSeq (sIf (oSnapB (dNot (dAsB (dMethD c_Moment "is_allowed" (m_Moment_is_allowed c_Moment) (dVar 2) (dCons (dVar 4) dNil))))) (sRaise1 c_BadMove "position" (oMask (dVar 3))) sSkip) (sExpr (oMeth c_Moment "make" (m_Moment_make c_Moment) (oVar 2) (oDfl [] (oCons (oMask (dVar 4)) oNil)))))) (sRet (oSnap (dArg bTuple (dCons (dAt c_Moment "sets" (dVar 2)) dNil))))))
def m_replay_k66 (c_BadMove c_Moment : Addr) : List PyData → R PyData := pureO (runO 5 2 (g_replay_k66 c_BadMove c_Moment))
def g_law_refused_k66 (c_BadMove c_Moment : Addr) : Sn := (gSeq (gTry 2 [c_BadMove] (gExpr (dArg (m_replay_k66 c_BadMove c_Moment) (dCons (dVar 0) (dCons (dVar 1) dNil)))) (fun a cls dd => (gSeq (gIf (dOr (dNot (dAsB (dIsiE 2 [(c_BadMove, true)] a cls dd))) (dNot (dAsB (dIsiE 2 [(c_BadMove, true)] a cls dd)))) (gRet (dC .none)) gSkip) (gSeq (gIf (dOr (dAsB (dIsiE 2 [(c_BadMove, false)] a cls dd)) (dNot (dAsB (dArg m_law_is_integer (dCons (dFld 2 [c_BadMove] "position" a cls dd) dNil))))) (gRet (dC .none)) gSkip) (gRet (dFld 2 [c_BadMove] "position" a cls dd)))))) (gRet (dC .none)))
def m_law_refused_k66 (c_BadMove c_Moment : Addr) : List PyData → R PyData := runD 3 2 (g_law_refused_k66 c_BadMove c_Moment)
def g_law_is_near : Sn := (gSeq (gIf (dOr (dAsB (dOne (fun d => .ok (.bool (isNone d))) (dTwo oIx (dVar 2) (dC (.int 1))))) (dOr (dAsB (dTwo oNotIn (dTwo oIx (dVar 2) (dC (.int 1))) (dTwo oIx (dVar 1) (dTwo oIx (dVar 2) (dC (.int 0)))))) (dAsB (dTwo oIn (dTwo oIx (dVar 2) (dC (.int 2))) (dTwo oIx (dVar 1) (dTwo oIx (dVar 2) (dC (.int 0)))))))) (gRet (dC (.bool false))) gSkip) (gRet (dArg m_law_is_free (dCons (dTwo oIx (dTwo oIx (dTwo oIx (dVar 0) (dTwo oIx (dVar 2) (dC (.int 0)))) (dC (.int 0))) (dC (.int 1))) (dCons (dArg m_law_exchanged (dCons (dTwo oIx (dVar 1) (dTwo oIx (dVar 2) (dC (.int 0)))) (dCons (dTwo oIx (dVar 2) (dC (.int 1))) (dCons (dTwo oIx (dVar 2) (dC (.int 2))) dNil)))) dNil)))))
def m_law_is_near : List PyData → R PyData := runD 3 3 g_law_is_near
def g_law_k66 (c_BadMove c_Moment : Addr) : Sn := (gSeq (gSet (dArg m_law_game_k86 (dCons (dVar 0) (dCons (dC (.int 0)) (dCons (dC (.bool false)) dNil)))) (.nm 1)) (gSeq (gSet (dArg m_law_size (dCons (dVar 1) dNil)) (.nm 2)) (gSeq (gSet (dArg m_law_draws (dCons (dArg m_law_cell (dCons (dVar 0) (dCons (dC (.int 8)) dNil))) (dCons (dC (.int 13)) dNil))) (.nm 3)) (gSeq (gSet (dArg m_law_grown (dCons (dVar 1) (dCons (dVar 3) (dCons (dVar 2) dNil)))) (.nm 4)) (gSeq (gSet (dTwo oIx (dVar 4) (dC (.int 0))) (.nm 5)) (gSeq (gSet (dTwo oIx (dTwo oIx (dVar 4) (dC (.int 1))) (dArg bLen (dCons (dVar 5) dNil))) (.nm 6)) (gSeq (gIf (dNot (dAsB (dArg m_law_are_sets_k65 (dCons (dArg (m_replay_k66 c_BadMove c_Moment) (dCons (dVar 1) (dCons (dVar 5) dNil))) (dCons (dVar 6) (dCons (dVar 2) dNil)))))) (gRet (dC (.bool false))) gSkip) (gSeq (gSet (dArg m_law_all_moves (dCons (dArg bLen (dCons (dVar 1) dNil)) (dCons (dVar 2) dNil))) (.nm 7)) (gSeq (gIf (dAsB (dTwo oEq (dArg bLen (dCons (dVar 7) dNil)) (dC (.int 0)))) (gRet (dTwo oEq (dVar 5) (dTup dNil))) gSkip) (gSeq (gSet (dArg m_law_draws (dCons (dArg m_law_cell (dCons (dVar 0) (dCons (dC (.int 9)) dNil))) (dCons (dC (.int 6)) dNil))) (.nm 8)) (gSeq (gSet (dLc (dItems (dVar 7)) (.nm 12) (dAsB (dOne (fun d => .ok (.bool (isNone d))) (dArg m_law_step (dCons (dVar 1) (dCons (dVar 6) (dCons (dVar 12) dNil)))))) (dVar 12) [12]) (.nm 9)) (gSeq (gSet (dLc (dItems (dVar 9)) (.nm 12) (dAsB (dArg m_law_is_near (dCons (dVar 1) (dCons (dVar 6) (dCons (dVar 12) dNil))))) (dVar 12) [12]) (.nm 10)) (gSeq (gIf (dAnd (dAsB (dTwo oGt (dArg bLen (dCons (dVar 10) dNil)) (dC (.int 0)))) (dAsB (dTwo oEq (dTwo oMod (dArg bInt (dCons (dTwo oIx (dVar 8) (dC (.int 0))) dNil)) (dC (.int 2))) (dC (.int 0))))) (gSet (dVar 10) (.nm 9)) gSkip) (gSeq (gSet (dTwo oAdd (dVar 5) (dTup (dCons (dTwo oIx (dVar 9) (dTwo oMod (dArg bInt (dCons (dTwo oIx (dVar 8) (dC (.int 1))) dNil)) (dArg bLen (dCons (dVar 9) dNil)))) dNil))) (.nm 11)) (gSeq (gSet (dTwo oAdd (dVar 11) (dArg bTuple (dCons (dLc (dRng1 (dCons (dTwo oMod (dArg bInt (dCons (dTwo oIx (dVar 8) (dC (.int 2))) dNil)) (dC (.int 4))) dNil)) (.nm 13) dYes (dTwo oIx (dVar 7) (dTwo oMod (dArg bInt (dCons (dTwo oIx (dVar 8) (dTwo oAdd (dC (.int 3)) (dVar 13))) dNil)) (dArg bLen (dCons (dVar 7) dNil)))) [13]) dNil))) (.nm 11)) (gSeq (gIf (dAsB (dTwo oNe (dArg (m_law_refused_k66 c_BadMove c_Moment) (dCons (dVar 1) (dCons (dVar 11) dNil))) (dArg bLen (dCons (dVar 5) dNil)))) (gRet (dC (.bool false))) gSkip) (gSeq (gIf (dNot (dAsB (dArg m_law_are_sets_k65 (dCons (dArg (m_replay_k66 c_BadMove c_Moment) (dCons (dVar 1) (dCons (dCut (dVar 11) dNoP (dPart (dArg bLen (dCons (dVar 5) dNil)))) dNil))) (dCons (dVar 6) (dCons (dVar 2) dNil)))))) (gRet (dC (.bool false))) gSkip) (gRet (dTwo oEq (dArg (m_law_refused_k66 c_BadMove c_Moment) (dCons (dVar 1) (dCons (dVar 11) dNil))) (dArg bLen (dCons (dVar 5) dNil)))))))))))))))))))))
def m_law_k66 (c_BadMove c_Moment : Addr) : List PyData → R PyData := runD 14 1 (g_law_k66 c_BadMove c_Moment)
end
end LW
set_option Elab.async false
set_option linter.all false
set_option maxRecDepth 100000
set_option maxHeartbeats 4000000
namespace LW
open PySem PySem.Spec PyProof.Rows L2 PD
section
variable {P : Program} {w : World} {K : PySem.W.Frag} {mg : Str → Option Value} {base : Heap} {Tb : List Addr}
def topS (i : Nat) : Stmt := PySem.Challenge.pw_takersrest_k66_refused_moves.main.body.getD i (.Pass ⟨0, 0, 0, 0⟩)
abbrev s_law_draws : Stmt := topS 23
theorem sc_law_draws : FnScope ["cell", "count", "rest", "digits", "seed", "draws", "k", "mixed"] ["cell", "count"] (defScope s_law_draws) := ⟨rfl, rfl, rfl, by decide +kernel, rfl, by decide +kernel, by decide +kernel⟩
theorem ok_law_draws {a : Addr} {fd : FuncData} (F : Fun K "_law_draws" "_law_draws" s_law_draws a fd) (hg : mg "_law_draws" = some (.ref a)) (hb : Binds K fd ["cell", "count"] []) (B : Bi mg) : FnD P w K mg base Tb "_law_draws" 1 m_law_draws := ⟨a, fd, ["cell", "count"], fn_okD F sc_law_draws fun cdv A outer s H E hr => 
  (fs_cons (fs_set (i := 2) sc_law_draws.nd rfl (.inl rfl) (e_abs B (fa_cons (e_int B (fa_cons (fd_var 0) fa_nil)) fa_nil))) (fs_cons (fs_set (i := 3) sc_law_draws.nd rfl (.inl rfl) (e_ge (fd_var 2) (fd_pow fd_int fd_int))) (fs_cons (fs_set (i := 4) sc_law_draws.nd rfl (.inl rfl) (fd_var 2)) (fs_cons (fs_own (i := 5) sc_law_draws.nd rfl (.inl rfl) (fn_lst fa_nil)) (fs_cons (fs_for (passes_of rfl) rfl (fi_rng1 (by rfl) B.range (fa_cons (fd_var 1) fa_nil)) (fg_nm (i := 6) sc_law_draws.nd rfl (.inl rfl)) (fs_one (fs_if (PW.pt (fw_and (ft_val (fd_var 3)) (fw_and1 (t_gt (fd_var 2) fd_int)))) (fs_cons (fs_app (i := 5) rfl (.inl rfl) (by decide) (by decide) (fd_mod (e_int B (fa_cons (fd_var 2) fa_nil)) fd_int) rfl rfl rfl rfl rfl rfl) (fs_one (fs_set (i := 2) sc_law_draws.nd rfl (.inl rfl) (fd_div (fd_var 2) fd_int)))) (fs_cons (fs_set (i := 7) sc_law_draws.nd rfl (.inl rfl) (fd_mod (e_int B (fa_cons (fd_add (fd_add (fd_mul (fd_var 4) fd_int) (fd_mul (fd_add (fd_var 6) fd_int) fd_int)) fd_int) fa_nil)) fd_int)) (fs_cons (fs_set (i := 7) sc_law_draws.nd rfl (.inl rfl) (fd_mod (e_int B (fa_cons (fd_add (fd_mul (fd_var 7) (fd_var 7)) (fd_mul fd_int (fd_add (fd_var 6) fd_int))) fa_nil)) fd_int)) (fs_one (fs_app (i := 5) rfl (.inl rfl) (by decide) (by decide) (fd_mod (e_int B (fa_cons (fd_div (fd_var 7) fd_int) fa_nil)) fd_int) rfl rfl rfl rfl rfl rfl))))))) (fs_frz 5 (fs_one (fs_ret (fd_var 5))))))))), hg, F.kp, hb⟩
abbrev s_law_cell : Stmt := topS 22
theorem sc_law_cell : FnScope ["script", "k"] ["script", "k"] (defScope s_law_cell) := ⟨rfl, rfl, rfl, by decide +kernel, rfl, by decide +kernel, by decide +kernel⟩
theorem ok_law_cell {a : Addr} {fd : FuncData} (F : Fun K "_law_cell" "_law_cell" s_law_cell a fd) (hg : mg "_law_cell" = some (.ref a)) (hb : Binds K fd ["script", "k"] []) (B : Bi mg) : FnD P w K mg base Tb "_law_cell" 1 m_law_cell := ⟨a, fd, ["script", "k"], fn_okD F sc_law_cell fun cdv A outer s H E hr => 
  (fs_cons (fs_if (t_lt (fd_var 1) (e_len B (fa_cons (fd_var 0) fa_nil))) (fs_one (fs_ret (e_ix (fd_var 0) (fd_var 1)))) fs_nil) (fs_one (fs_ret (fd_add (fd_mul fd_int (fd_var 1)) fd_int)))), hg, F.kp, hb⟩
abbrev s_law_costs : Stmt := topS 38
theorem sc_law_costs : FnScope ["cell", "size", "room", "great", "draws", "rows", "thing", "cost", "extra", "row", "k"] ["cell", "size", "room", "great"] (defScope s_law_costs) := ⟨rfl, rfl, rfl, by decide +kernel, rfl, by decide +kernel, by decide +kernel⟩
theorem ok_law_costs {a : Addr} {fd : FuncData} (F : Fun K "_law_costs" "_law_costs" s_law_costs a fd) (D_law_draws : FnD P w K mg base Tb "_law_draws" 1 m_law_draws) (hg : mg "_law_costs" = some (.ref a)) (hb : Binds K fd ["cell", "size", "room", "great"] []) (B : Bi mg) : FnD P w K mg base Tb "_law_costs" 2 m_law_costs_k79 := ⟨a, fd, ["cell", "size", "room", "great"], fn_okD F sc_law_costs fun cdv A outer s H E hr => 
  (fs_cons (fs_set (i := 4) sc_law_costs.nd rfl (.inl rfl) (e_call D_law_draws (fun σ => lets_of (L2N.takes_of rfl rfl rfl rfl) σ) hr (fa_cons (fd_var 0) (fa_cons (fd_add (fd_mul (fd_var 1) (fd_var 2)) fd_int) fa_nil)))) (fs_cons (fs_own (i := 5) sc_law_costs.nd rfl (.inl rfl) (fn_lst fa_nil)) (fs_cons (fs_for (passes_of rfl) rfl (fi_rng1 (by rfl) B.range (fa_cons (fd_var 1) fa_nil)) (fg_nm (i := 6) sc_law_costs.nd rfl (.inl rfl)) (fs_cons (fs_set (i := 7) sc_law_costs.nd rfl (.inl rfl) (fd_sub (fd_mod (e_int B (fa_cons (e_ix (fd_var 4) (fd_mul (fd_var 6) (fd_var 2))) fa_nil)) fd_int) fd_int)) (fs_cons (fs_set (i := 8) sc_law_costs.nd rfl (.inl rfl) (fd_mod (fd_div (e_int B (fa_cons (e_ix (fd_var 4) (fd_mul (fd_var 6) (fd_var 2))) fa_nil)) fd_int) fd_int)) (fs_cons (fs_own (i := 9) sc_law_costs.nd rfl (.inl rfl) (fn_lst fa_nil)) (fs_cons (fs_for (passes_of rfl) rfl (fi_rng1 (by rfl) B.range (fa_cons (fd_var 2) fa_nil)) (fg_nm (i := 10) sc_law_costs.nd rfl (.inl rfl)) (fs_cons (fs_if (t_gt (fd_var 10) fd_int) (fs_one (fs_set (i := 7) sc_law_costs.nd rfl (.inl rfl) (fd_add (fd_var 7) (e_ix (fd_tup (fa_cons fd_int (fa_cons fd_int (fa_cons fd_int (fa_cons fd_int (fa_cons fd_int (fa_cons fd_int fa_nil))))))) (fd_mod (e_int B (fa_cons (e_ix (fd_var 4) (fd_add (fd_mul (fd_var 6) (fd_var 2)) (fd_var 10))) fa_nil)) fd_int))))) fs_nil) (fs_one (fs_if (ft_val (fd_var 3)) (fs_one (fs_app (i := 9) rfl (.inl rfl) (by decide) (by decide) (fd_add (fd_mul (fd_var 7) (fd_pow fd_int fd_int)) (fd_var 8)) rfl rfl rfl rfl rfl rfl)) (fs_one (fs_app (i := 9) rfl (.inl rfl) (by decide) (by decide) (fd_var 7) rfl rfl rfl rfl rfl rfl)))))) (fs_frz 9 (fs_one (fs_app (i := 5) rfl (.inl rfl) (by decide) (by decide) (e_tuple B (fa_cons (fd_var 9) fa_nil)) rfl rfl rfl rfl rfl rfl)))))))) (fs_frz 5 (fs_one (fs_ret (e_tuple B (fa_cons (fd_var 5) fa_nil)))))))), hg, F.kp, hb⟩
abbrev s_law_parts_of : Stmt := topS 26
theorem sc_law_parts_of : FnScope ["size", "rows", "thing", "row"] ["size"] (defScope s_law_parts_of) := ⟨rfl, rfl, rfl, by decide +kernel, rfl, by decide +kernel, by decide +kernel⟩
theorem ok_law_parts_of {a : Addr} {fd : FuncData} (F : Fun K "_law_parts_of" "_law_parts_of" s_law_parts_of a fd) (hg : mg "_law_parts_of" = some (.ref a)) (hb : Binds K fd ["size"] []) (B : Bi mg) : FnD P w K mg base Tb "_law_parts_of" 1 m_law_parts_of := ⟨a, fd, ["size"], fn_okD F sc_law_parts_of fun cdv A outer s H E hr => 
  (fs_cons (fs_set (i := 1) sc_law_parts_of.nd rfl (.inl rfl) (fd_lst (fa_cons (fd_tup fa_nil) fa_nil))) (fs_cons (fs_for (passes_of rfl) rfl (fi_rng1 (by rfl) B.range (fa_cons (fd_var 0) fa_nil)) (fg_nm (i := 2) sc_law_parts_of.nd rfl (.inr rfl)) (fs_one (fs_set (i := 1) sc_law_parts_of.nd rfl (.inl rfl) (fd_add (fd_var 1) (fd_lc rfl sc_law_parts_of.nd (fi_seq (fd_var 1)) (own := [("row", 3)]) (blkOk_by (by rfl)) (fun _ _ _ _ _ => (fg_nm (i := 3) sc_law_parts_of.nd rfl (.inl rfl))) (fun _ _ _ _ _ => ft_yes) (fun _ _ _ _ _ => (fd_add (fd_var 3) (fd_tup (fa_cons (fd_var 2) fa_nil))))))))) (fs_one (fs_ret (e_sorted B hr (fa_cons (fd_var 1) fa_nil)))))), hg, F.kp, hb⟩
abbrev s_law_count : Stmt := topS 31
theorem sc_law_count : FnScope ["row", "classes", "c", "thing"] ["row", "classes", "c"] (defScope s_law_count) := ⟨rfl, rfl, rfl, by decide +kernel, rfl, by decide +kernel, by decide +kernel⟩
theorem ok_law_count {a : Addr} {fd : FuncData} (F : Fun K "_law_count" "_law_count" s_law_count a fd) (hg : mg "_law_count" = some (.ref a)) (hb : Binds K fd ["row", "classes", "c"] []) (B : Bi mg) : FnD P w K mg base Tb "_law_count" 1 m_law_count := ⟨a, fd, ["row", "classes", "c"], fn_okD F sc_law_count fun cdv A outer s H E hr => 
  (fs_one (fs_ret (e_len B (fa_cons (fd_lc rfl sc_law_count.nd (fi_seq (fd_var 0)) (own := [("thing", 3)]) (blkOk_by (by rfl)) (fun _ _ _ _ _ => (fg_nm (i := 3) sc_law_count.nd rfl (.inl rfl))) (fun _ _ _ _ _ => (ft_one (t_eq hr (e_ix (fd_var 1) (fd_var 3)) (fd_var 2)))) (fun _ _ _ _ _ => (fd_var 3))) fa_nil)))), hg, F.kp, hb⟩
abbrev s_law_bounded_lots : Stmt := topS 32
theorem sc_law_bounded_lots : FnScope ["draws", "size", "classes", "bounds", "rows", "row", "most", "count", "thing", "c"] ["draws", "size"] (defScope s_law_bounded_lots) := ⟨rfl, rfl, rfl, by decide +kernel, rfl, by decide +kernel, by decide +kernel⟩
theorem ok_law_bounded_lots {a : Addr} {fd : FuncData} (F : Fun K "_law_bounded_lots" "_law_bounded_lots" s_law_bounded_lots a fd) (D_law_parts_of : FnD P w K mg base Tb "_law_parts_of" 1 m_law_parts_of) (D_law_count : FnD P w K mg base Tb "_law_count" 1 m_law_count) (hg : mg "_law_bounded_lots" = some (.ref a)) (hb : Binds K fd ["draws", "size"] []) (B : Bi mg) : FnD P w K mg base Tb "_law_bounded_lots" 2 m_law_bounded_lots := ⟨a, fd, ["draws", "size"], fn_okD F sc_law_bounded_lots fun cdv A outer s H E hr => 
  (fs_cons (fs_set (i := 2) sc_law_bounded_lots.nd rfl (.inr rfl) (fd_lc rfl sc_law_bounded_lots.nd (fi_rng1 (by rfl) B.range (fa_cons (fd_var 1) fa_nil)) (own := [("thing", 8)]) (blkOk_by (by rfl)) (fun _ _ _ _ _ => (fg_nm (i := 8) sc_law_bounded_lots.nd rfl (.inl rfl))) (fun _ _ _ _ _ => ft_yes) (fun _ _ _ _ _ => (fd_mod (e_int B (fa_cons (e_ix (fd_var 0) (fd_add fd_int (fd_var 8))) fa_nil)) fd_int)))) (fs_cons (fs_set (i := 3) sc_law_bounded_lots.nd rfl (.inr rfl) (fd_lst (fa_cons (fd_add fd_int (fd_mod (e_int B (fa_cons (e_ix (fd_var 0) fd_int) fa_nil)) fd_int)) (fa_cons (fd_add fd_int (fd_mod (fd_div (e_int B (fa_cons (e_ix (fd_var 0) fd_int) fa_nil)) fd_int) fd_int)) (fa_cons (fd_mod (fd_div (e_int B (fa_cons (e_ix (fd_var 0) fd_int) fa_nil)) fd_int) fd_int) fa_nil))))) (fs_cons (fs_own (i := 4) sc_law_bounded_lots.nd rfl (.inl rfl) (fn_lst fa_nil)) (fs_cons (fs_for (passes_of rfl) rfl (fi_seq (e_call D_law_parts_of (fun σ => lets_of (L2N.takes_of rfl rfl rfl rfl) σ) hr (fa_cons (fd_var 1) fa_nil))) (fg_nm (i := 5) sc_law_bounded_lots.nd rfl (.inr rfl)) (fs_one (fs_if (ft_val (e_all B (fa_cons (fd_lc rfl sc_law_bounded_lots.nd (fi_rng1 (by rfl) B.range (fa_cons fd_int fa_nil)) (own := [("c", 9)]) (blkOk_by (by rfl)) (fun _ _ _ _ _ => (fg_nm (i := 9) sc_law_bounded_lots.nd rfl (.inl rfl))) (fun _ _ _ _ _ => ft_yes) (fun _ _ _ _ _ => (e_le (e_call D_law_count (fun σ => lets0 σ) hr (fa_cons (fd_var 5) (fa_cons (fd_var 2) (fa_cons (fd_var 9) fa_nil)))) (e_ix (fd_var 3) (fd_var 9))))) fa_nil))) (fs_one (fs_app (i := 4) rfl (.inl rfl) (by decide) (by decide) (fd_var 5) rfl rfl rfl rfl rfl rfl)) fs_nil))) (fs_frz 4 (fs_cons (fs_set (i := 6) sc_law_bounded_lots.nd rfl (.inl rfl) (e_max B (fa_cons (fd_lc rfl sc_law_bounded_lots.nd (fi_seq (fd_var 4)) (own := [("row", 5)]) (blkOk_by (by rfl)) (fun _ _ _ _ _ => (fg_nm (i := 5) sc_law_bounded_lots.nd rfl (.inl rfl))) (fun _ _ _ _ _ => ft_yes) (fun _ _ _ _ _ => (e_len B (fa_cons (fd_var 5) fa_nil)))) fa_nil))) (fs_cons (fs_set (i := 7) sc_law_bounded_lots.nd rfl (.inr rfl) (e_min2 B (fa_cons (fd_var 6) (fa_cons (e_ix (fd_tup (fa_cons fd_int (fa_cons fd_int (fa_cons fd_int (fa_cons fd_int (fa_cons fd_int (fa_cons fd_int (fa_cons fd_int (fa_cons fd_int fa_nil))))))))) (fd_mod (e_int B (fa_cons (e_ix (fd_var 0) fd_int) fa_nil)) fd_int)) fa_nil)))) (fs_one (fs_ret (e_tuple B (fa_cons (fd_lc rfl sc_law_bounded_lots.nd (fi_seq (fd_var 4)) (own := [("row", 5)]) (blkOk_by (by rfl)) (fun _ _ _ _ _ => (fg_nm (i := 5) sc_law_bounded_lots.nd rfl (.inl rfl))) (fun _ _ _ _ _ => (ft_one (t_eq hr (e_len B (fa_cons (fd_var 5) fa_nil)) (fd_var 7)))) (fun _ _ _ _ _ => (fd_var 5))) fa_nil))))))))))), hg, F.kp, hb⟩
abbrev s_law_is_forest : Stmt := topS 33
theorem sc_law_is_forest : FnScope ["row", "roads", "points", "labels", "thing", "u", "v", "label"] ["row", "roads", "points"] (defScope s_law_is_forest) := ⟨rfl, rfl, rfl, by decide +kernel, rfl, by decide +kernel, by decide +kernel⟩
theorem ok_law_is_forest {a : Addr} {fd : FuncData} (F : Fun K "_law_is_forest" "_law_is_forest" s_law_is_forest a fd) (hg : mg "_law_is_forest" = some (.ref a)) (hb : Binds K fd ["row", "roads", "points"] []) (B : Bi mg) : FnD P w K mg base Tb "_law_is_forest" 1 m_law_is_forest := ⟨a, fd, ["row", "roads", "points"], fn_okD F sc_law_is_forest fun cdv A outer s H E hr => 
  (fs_cons (fs_set (i := 3) sc_law_is_forest.nd rfl (.inl rfl) (fd_lstR1 rfl (by rfl) B.list (by rfl) B.range (fd_var 2))) (fs_cons (fs_for (passes_of rfl) rfl (fi_seq (fd_var 0)) (fg_nm (i := 4) sc_law_is_forest.nd rfl (.inl rfl)) (fs_cons (fs_set (i := 5) sc_law_is_forest.nd rfl (.inr rfl) (e_ix (fd_var 3) (e_ix (e_ix (fd_var 1) (fd_var 4)) fd_int))) (fs_cons (fs_set (i := 6) sc_law_is_forest.nd rfl (.inr rfl) (e_ix (fd_var 3) (e_ix (e_ix (fd_var 1) (fd_var 4)) fd_int))) (fs_cons (fs_if (t_eq hr (fd_var 5) (fd_var 6)) (fs_one (fs_ret fd_bl)) fs_nil) (fs_one (fs_setLc (i := 3) rfl sc_law_is_forest.nd rfl rfl (by rfl) (fi_seq (fd_var 3)) (own := [("label", 7)]) (blkOk_by (by rfl)) (fun _ _ _ _ _ => (fg_nm (i := 7) sc_law_is_forest.nd rfl (.inl rfl))) (fun _ _ _ _ _ => ft_yes) (fun _ _ _ _ _ => (fd_if (t_eq hr (fd_var 7) (fd_var 5)) (fd_var 6) (fd_var 7))))))))) (fs_one (fs_ret fd_bl)))), hg, F.kp, hb⟩
abbrev s_law_forest_lots : Stmt := topS 34
theorem sc_law_forest_lots : FnScope ["draws", "size", "points", "roads", "thing", "draw", "rows", "most", "row"] ["draws", "size"] (defScope s_law_forest_lots) := ⟨rfl, rfl, rfl, by decide +kernel, rfl, by decide +kernel, by decide +kernel⟩
theorem ok_law_forest_lots {a : Addr} {fd : FuncData} (F : Fun K "_law_forest_lots" "_law_forest_lots" s_law_forest_lots a fd) (D_law_parts_of : FnD P w K mg base Tb "_law_parts_of" 1 m_law_parts_of) (D_law_is_forest : FnD P w K mg base Tb "_law_is_forest" 1 m_law_is_forest) (hg : mg "_law_forest_lots" = some (.ref a)) (hb : Binds K fd ["draws", "size"] []) (B : Bi mg) : FnD P w K mg base Tb "_law_forest_lots" 2 m_law_forest_lots := ⟨a, fd, ["draws", "size"], fn_okD F sc_law_forest_lots fun cdv A outer s H E hr => 
  (fs_cons (fs_set (i := 2) sc_law_forest_lots.nd rfl (.inr rfl) (fd_add fd_int (fd_mod (e_int B (fa_cons (e_ix (fd_var 0) fd_int) fa_nil)) fd_int))) (fs_cons (fs_own (i := 3) sc_law_forest_lots.nd rfl (.inr rfl) (fn_lst fa_nil)) (fs_cons (fs_for (passes_of rfl) rfl (fi_rng1 (by rfl) B.range (fa_cons (fd_var 1) fa_nil)) (fg_nm (i := 4) sc_law_forest_lots.nd rfl (.inl rfl)) (fs_cons (fs_set (i := 5) sc_law_forest_lots.nd rfl (.inl rfl) (e_int B (fa_cons (e_ix (fd_var 0) (fd_add fd_int (fd_var 4))) fa_nil))) (fs_one (fs_app (i := 3) rfl (.inr (.inl rfl)) (by decide) (by decide) (fd_tup (fa_cons (fd_mod (fd_var 5) (fd_var 2)) (fa_cons (fd_mod (fd_div (fd_var 5) (fd_var 2)) (fd_var 2)) fa_nil))) rfl rfl rfl rfl rfl rfl)))) (fs_frz 3 (fs_cons (fs_setLc (i := 6) rfl sc_law_forest_lots.nd rfl rfl (by rfl) (fi_seq (e_call D_law_parts_of (fun σ => lets_of (L2N.takes_of rfl rfl rfl rfl) σ) hr (fa_cons (fd_var 1) fa_nil))) (own := [("row", 8)]) (blkOk_by (by rfl)) (fun _ _ _ _ _ => (fg_nm (i := 8) sc_law_forest_lots.nd rfl (.inl rfl))) (fun _ _ _ _ _ => (ft_one (ft_val (e_call D_law_is_forest (fun σ => lets0 σ) hr (fa_cons (fd_var 8) (fa_cons (fd_var 3) (fa_cons (fd_var 2) fa_nil))))))) (fun _ _ _ _ _ => (fd_var 8))) (fs_cons (fs_set (i := 7) sc_law_forest_lots.nd rfl (.inr rfl) (e_max B (fa_cons (fd_lc rfl sc_law_forest_lots.nd (fi_seq (fd_var 6)) (own := [("row", 8)]) (blkOk_by (by rfl)) (fun _ _ _ _ _ => (fg_nm (i := 8) sc_law_forest_lots.nd rfl (.inl rfl))) (fun _ _ _ _ _ => ft_yes) (fun _ _ _ _ _ => (e_len B (fa_cons (fd_var 8) fa_nil)))) fa_nil))) (fs_one (fs_ret (e_tuple B (fa_cons (fd_lc rfl sc_law_forest_lots.nd (fi_seq (fd_var 6)) (own := [("row", 8)]) (blkOk_by (by rfl)) (fun _ _ _ _ _ => (fg_nm (i := 8) sc_law_forest_lots.nd rfl (.inl rfl))) (fun _ _ _ _ _ => (ft_one (t_eq hr (e_len B (fa_cons (fd_var 8) fa_nil)) (fd_var 7)))) (fun _ _ _ _ _ => (fd_var 8))) fa_nil)))))))))), hg, F.kp, hb⟩
abbrev s_law_rest_of : Stmt := topS 35
theorem sc_law_rest_of : FnScope ["lot", "size", "thing"] ["lot", "size"] (defScope s_law_rest_of) := ⟨rfl, rfl, rfl, by decide +kernel, rfl, by decide +kernel, by decide +kernel⟩
theorem ok_law_rest_of {a : Addr} {fd : FuncData} (F : Fun K "_law_rest_of" "_law_rest_of" s_law_rest_of a fd) (hg : mg "_law_rest_of" = some (.ref a)) (hb : Binds K fd ["lot", "size"] []) (B : Bi mg) : FnD P w K mg base Tb "_law_rest_of" 1 m_law_rest_of := ⟨a, fd, ["lot", "size"], fn_okD F sc_law_rest_of fun cdv A outer s H E hr => 
  (fs_one (fs_ret (e_tuple B (fa_cons (fd_lc rfl sc_law_rest_of.nd (fi_rng1 (by rfl) B.range (fa_cons (fd_var 1) fa_nil)) (own := [("thing", 2)]) (blkOk_by (by rfl)) (fun _ _ _ _ _ => (fg_nm (i := 2) sc_law_rest_of.nd rfl (.inl rfl))) (fun _ _ _ _ _ => (ft_one (t_notin hr (fd_var 2) (fd_var 0)))) (fun _ _ _ _ _ => (fd_var 2))) fa_nil)))), hg, F.kp, hb⟩
abbrev s_law_smooth_lots : Stmt := topS 36
theorem sc_law_smooth_lots : FnScope ["cell", "size", "draws", "kind", "lots", "lot"] ["cell", "size"] (defScope s_law_smooth_lots) := ⟨rfl, rfl, rfl, by decide +kernel, rfl, by decide +kernel, by decide +kernel⟩
theorem ok_law_smooth_lots {a : Addr} {fd : FuncData} (F : Fun K "_law_smooth_lots" "_law_smooth_lots" s_law_smooth_lots a fd) (D_law_draws : FnD P w K mg base Tb "_law_draws" 1 m_law_draws) (D_law_bounded_lots : FnD P w K mg base Tb "_law_bounded_lots" 2 m_law_bounded_lots) (D_law_forest_lots : FnD P w K mg base Tb "_law_forest_lots" 2 m_law_forest_lots) (D_law_rest_of : FnD P w K mg base Tb "_law_rest_of" 1 m_law_rest_of) (hg : mg "_law_smooth_lots" = some (.ref a)) (hb : Binds K fd ["cell", "size"] []) (B : Bi mg) : FnD P w K mg base Tb "_law_smooth_lots" 3 m_law_smooth_lots_k03 := ⟨a, fd, ["cell", "size"], fn_okD F sc_law_smooth_lots fun cdv A outer s H E hr => 
  (fs_cons (fs_set (i := 2) sc_law_smooth_lots.nd rfl (.inl rfl) (e_call D_law_draws (fun σ => lets_of (L2N.takes_of rfl rfl rfl rfl) σ) hr (fa_cons (fd_var 0) (fa_cons (fd_add fd_int (fd_var 1)) fa_nil)))) (fs_cons (fs_set (i := 3) sc_law_smooth_lots.nd rfl (.inl rfl) (fd_mod (e_int B (fa_cons (e_ix (fd_var 2) fd_int) fa_nil)) fd_int)) (fs_cons (fs_if (t_lt (fd_var 3) fd_int) (fs_one (fs_set (i := 4) sc_law_smooth_lots.nd rfl (.inl rfl) (e_call D_law_bounded_lots (fun σ => lets_of (L2N.takes_of rfl rfl rfl rfl) σ) hr (fa_cons (fd_var 2) (fa_cons (fd_var 1) fa_nil))))) (fs_one (fs_set (i := 4) sc_law_smooth_lots.nd rfl (.inl rfl) (e_call D_law_forest_lots (fun σ => lets_of (L2N.takes_of rfl rfl rfl rfl) σ) hr (fa_cons (fd_var 2) (fa_cons (fd_var 1) fa_nil)))))) (fs_cons (fs_if (PW.pt (fw_or (t_eq hr (fd_var 3) fd_int) (fw_or1 (t_eq hr (fd_var 3) fd_int)))) (fs_one (fs_set (i := 4) sc_law_smooth_lots.nd rfl (.inl rfl) (e_tuple B (fa_cons (e_sorted B hr (fa_cons (fd_lc rfl sc_law_smooth_lots.nd (fi_seq (fd_var 4)) (own := [("lot", 5)]) (blkOk_by (by rfl)) (fun _ _ _ _ _ => (fg_nm (i := 5) sc_law_smooth_lots.nd rfl (.inl rfl))) (fun _ _ _ _ _ => ft_yes) (fun _ _ _ _ _ => (e_call D_law_rest_of (fun σ => lets0 σ) hr (fa_cons (fd_var 5) (fa_cons (fd_var 1) fa_nil))))) fa_nil)) fa_nil)))) fs_nil) (fs_one (fs_ret (fd_var 4))))))), hg, F.kp, hb⟩
abbrev s_law_within : Stmt := topS 27
theorem sc_law_within : FnScope ["inner", "outer", "thing"] ["inner", "outer"] (defScope s_law_within) := ⟨rfl, rfl, rfl, by decide +kernel, rfl, by decide +kernel, by decide +kernel⟩
theorem ok_law_within {a : Addr} {fd : FuncData} (F : Fun K "_law_within" "_law_within" s_law_within a fd) (hg : mg "_law_within" = some (.ref a)) (hb : Binds K fd ["inner", "outer"] []) (B : Bi mg) : FnD P w K mg base Tb "_law_within" 1 m_law_within := ⟨a, fd, ["inner", "outer"], fn_okD F sc_law_within fun cdv A outer s H E hr => 
  (fs_one (fs_ret (e_all B (fa_cons (fd_lc rfl sc_law_within.nd (fi_seq (fd_var 0)) (own := [("thing", 2)]) (blkOk_by (by rfl)) (fun _ _ _ _ _ => (fg_nm (i := 2) sc_law_within.nd rfl (.inl rfl))) (fun _ _ _ _ _ => ft_yes) (fun _ _ _ _ _ => (e_in hr (fd_var 2) (fd_var 1)))) fa_nil)))), hg, F.kp, hb⟩
abbrev s_law_antichain : Stmt := topS 28
theorem sc_law_antichain : FnScope ["rows", "kept", "row", "other"] ["rows"] (defScope s_law_antichain) := ⟨rfl, rfl, rfl, by decide +kernel, rfl, by decide +kernel, by decide +kernel⟩
theorem ok_law_antichain {a : Addr} {fd : FuncData} (F : Fun K "_law_antichain" "_law_antichain" s_law_antichain a fd) (D_law_within : FnD P w K mg base Tb "_law_within" 1 m_law_within) (hg : mg "_law_antichain" = some (.ref a)) (hb : Binds K fd ["rows"] []) (B : Bi mg) : FnD P w K mg base Tb "_law_antichain" 2 m_law_antichain := ⟨a, fd, ["rows"], fn_okD F sc_law_antichain fun cdv A outer s H E hr => 
  (fs_cons (fs_own (i := 1) sc_law_antichain.nd rfl (.inl rfl) (fn_lst fa_nil)) (fs_cons (fs_for (passes_of rfl) rfl (fi_seq (e_sorted B hr (fa_cons (fd_var 0) fa_nil))) (fg_nm (i := 2) sc_law_antichain.nd rfl (.inr rfl)) (fs_one (fs_if (ft_thaw (PW.pt (fw_and (t_notin hr (fd_var 2) (fd_var 1)) (fw_and1 (ft_not (ft_val (e_any B (fa_cons (fd_lc rfl sc_law_antichain.nd (fi_seq (fd_var 0)) (own := [("other", 3)]) (blkOk_by (by rfl)) (fun _ _ _ _ _ => (fg_nm (i := 3) sc_law_antichain.nd rfl (.inl rfl))) (fun _ _ _ _ _ => ft_yes) (fun _ _ _ _ _ => (fd_and (e_ne hr (fd_var 2) (fd_var 3)) (fd_one (e_call D_law_within (fun σ => lets0 σ) hr (fa_cons (fd_var 2) (fa_cons (fd_var 3) fa_nil))))))) fa_nil)))))))) (fs_one (fs_app (i := 1) rfl (.inl rfl) (by decide) (by decide) (fd_var 2) rfl rfl rfl rfl rfl rfl)) fs_nil))) (fs_frz 1 (fs_one (fs_ret (e_tuple B (fa_cons (fd_var 1) fa_nil))))))), hg, F.kp, hb⟩
abbrev s_law_any_lots : Stmt := topS 30
theorem sc_law_any_lots : FnScope ["cell", "size", "draws", "parts", "rows", "k"] ["cell", "size"] (defScope s_law_any_lots) := ⟨rfl, rfl, rfl, by decide +kernel, rfl, by decide +kernel, by decide +kernel⟩
theorem ok_law_any_lots {a : Addr} {fd : FuncData} (F : Fun K "_law_any_lots" "_law_any_lots" s_law_any_lots a fd) (D_law_draws : FnD P w K mg base Tb "_law_draws" 1 m_law_draws) (D_law_parts_of : FnD P w K mg base Tb "_law_parts_of" 1 m_law_parts_of) (D_law_antichain : FnD P w K mg base Tb "_law_antichain" 2 m_law_antichain) (hg : mg "_law_any_lots" = some (.ref a)) (hb : Binds K fd ["cell", "size"] []) (B : Bi mg) : FnD P w K mg base Tb "_law_any_lots" 3 m_law_any_lots_k79 := ⟨a, fd, ["cell", "size"], fn_okD F sc_law_any_lots fun cdv A outer s H E hr => 
  (fs_cons (fs_set (i := 2) sc_law_any_lots.nd rfl (.inr rfl) (e_call D_law_draws (fun σ => lets_of (L2N.takes_of rfl rfl rfl rfl) σ) hr (fa_cons (fd_var 0) (fa_cons fd_int fa_nil)))) (fs_cons (fs_set (i := 3) sc_law_any_lots.nd rfl (.inr rfl) (e_call D_law_parts_of (fun σ => lets_of (L2N.takes_of rfl rfl rfl rfl) σ) hr (fa_cons (fd_var 1) fa_nil))) (fs_cons (fs_setLc (i := 4) rfl sc_law_any_lots.nd rfl rfl (by rfl) (fi_rng1 (by rfl) B.range (fa_cons (fd_add fd_int (fd_mod (e_int B (fa_cons (e_ix (fd_var 2) fd_int) fa_nil)) fd_int)) fa_nil)) (own := [("k", 5)]) (blkOk_by (by rfl)) (fun _ _ _ _ _ => (fg_nm (i := 5) sc_law_any_lots.nd rfl (.inl rfl))) (fun _ _ _ _ _ => ft_yes) (fun _ _ _ _ _ => (e_ix (fd_var 3) (fd_mod (e_int B (fa_cons (e_ix (fd_var 2) (fd_add fd_int (fd_var 5))) fa_nil)) (e_len B (fa_cons (fd_var 3) fa_nil)))))) (fs_one (fs_ret (e_call D_law_antichain (fun σ => lets_of (L2N.takes_of rfl rfl rfl rfl) σ) hr (fa_cons (fd_var 4) fa_nil))))))), hg, F.kp, hb⟩
abbrev s_law_lots : Stmt := topS 37
theorem sc_law_lots : FnScope ["cell", "size", "draws"] ["cell", "size"] (defScope s_law_lots) := ⟨rfl, rfl, rfl, by decide +kernel, rfl, by decide +kernel, by decide +kernel⟩
theorem ok_law_lots {a : Addr} {fd : FuncData} (F : Fun K "_law_lots" "_law_lots" s_law_lots a fd) (D_law_draws : FnD P w K mg base Tb "_law_draws" 1 m_law_draws) (D_law_any_lots : FnD P w K mg base Tb "_law_any_lots" 3 m_law_any_lots_k79) (D_law_smooth_lots : FnD P w K mg base Tb "_law_smooth_lots" 3 m_law_smooth_lots_k03) (hg : mg "_law_lots" = some (.ref a)) (hb : Binds K fd ["cell", "size"] []) (B : Bi mg) : FnD P w K mg base Tb "_law_lots" 4 m_law_lots_k79 := ⟨a, fd, ["cell", "size"], fn_okD F sc_law_lots fun cdv A outer s H E hr => 
  (fs_cons (fs_set (i := 2) sc_law_lots.nd rfl (.inl rfl) (e_call D_law_draws (fun σ => lets_of (L2N.takes_of rfl rfl rfl rfl) σ) hr (fa_cons (fd_var 0) (fa_cons fd_int fa_nil)))) (fs_cons (fs_if (t_eq hr (fd_mod (fd_div (e_int B (fa_cons (e_ix (fd_var 2) fd_int) fa_nil)) fd_int) fd_int) fd_int) (fs_one (fs_ret (e_call D_law_smooth_lots (fun σ => lets_of (L2N.takes_of rfl rfl rfl rfl) σ) hr (fa_cons (fd_var 0) (fa_cons (fd_var 1) fa_nil))))) fs_nil) (fs_one (fs_ret (e_call D_law_any_lots (fun σ => lets_of (L2N.takes_of rfl rfl rfl rfl) σ) hr (fa_cons (fd_var 0) (fa_cons (fd_var 1) fa_nil))))))), hg, F.kp, hb⟩
abbrev s_law_game : Stmt := topS 39
theorem sc_law_game : FnScope ["script", "first", "smooth", "draws", "count", "size", "takers", "k", "cell", "lots", "room", "costs"] ["script", "first", "smooth"] (defScope s_law_game) := ⟨rfl, rfl, rfl, by decide +kernel, rfl, by decide +kernel, by decide +kernel⟩
theorem ok_law_game {a : Addr} {fd : FuncData} (F : Fun K "_law_game" "_law_game" s_law_game a fd) (D_law_draws : FnD P w K mg base Tb "_law_draws" 1 m_law_draws) (D_law_cell : FnD P w K mg base Tb "_law_cell" 1 m_law_cell) (D_law_costs : FnD P w K mg base Tb "_law_costs" 2 m_law_costs_k79) (D_law_smooth_lots : FnD P w K mg base Tb "_law_smooth_lots" 3 m_law_smooth_lots_k03) (D_law_lots : FnD P w K mg base Tb "_law_lots" 4 m_law_lots_k79) (hg : mg "_law_game" = some (.ref a)) (hb : Binds K fd ["script", "first", "smooth"] []) (B : Bi mg) : FnD P w K mg base Tb "_law_game" 5 m_law_game_k86 := ⟨a, fd, ["script", "first", "smooth"], fn_okD F sc_law_game fun cdv A outer s H E hr => 
  (fs_cons (fs_set (i := 3) sc_law_game.nd rfl (.inl rfl) (e_call D_law_draws (fun σ => lets_of (L2N.takes_of rfl rfl rfl rfl) σ) hr (fa_cons (e_call D_law_cell (fun σ => lets_of (L2N.takes_of rfl rfl rfl rfl) σ) hr (fa_cons (fd_var 0) (fa_cons (fd_var 1) fa_nil))) (fa_cons fd_int fa_nil)))) (fs_cons (fs_set (i := 4) sc_law_game.nd rfl (.inl rfl) (e_ix (fd_tup (fa_cons fd_int (fa_cons fd_int (fa_cons fd_int (fa_cons fd_int (fa_cons fd_int (fa_cons fd_int (fa_cons fd_int (fa_cons fd_int fa_nil))))))))) (fd_mod (e_int B (fa_cons (e_ix (fd_var 3) fd_int) fa_nil)) fd_int))) (fs_cons (fs_set (i := 5) sc_law_game.nd rfl (.inl rfl) (e_ix (fd_tup (fa_cons fd_int (fa_cons fd_int (fa_cons fd_int (fa_cons fd_int (fa_cons fd_int (fa_cons fd_int (fa_cons fd_int (fa_cons fd_int fa_nil))))))))) (fd_mod (e_int B (fa_cons (e_ix (fd_var 3) fd_int) fa_nil)) fd_int))) (fs_cons (fs_own (i := 6) sc_law_game.nd rfl (.inl rfl) (fn_lst fa_nil)) (fs_cons (fs_for (passes_of rfl) rfl (fi_rng1 (by rfl) B.range (fa_cons (fd_var 4) fa_nil)) (fg_nm (i := 7) sc_law_game.nd rfl (.inl rfl)) (fs_cons (fs_set (i := 8) sc_law_game.nd rfl (.inl rfl) (e_call D_law_cell (fun σ => lets_of (L2N.takes_of rfl rfl rfl rfl) σ) hr (fa_cons (fd_var 0) (fa_cons (fd_add (fd_add (fd_var 1) fd_int) (fd_mul fd_int (fd_var 7))) fa_nil)))) (fs_cons (fs_if (ft_val (fd_var 2)) (fs_one (fs_set (i := 9) sc_law_game.nd rfl (.inl rfl) (e_call D_law_smooth_lots (fun σ => lets_of (L2N.takes_of rfl rfl rfl rfl) σ) hr (fa_cons (fd_var 8) (fa_cons (fd_var 5) fa_nil))))) (fs_one (fs_set (i := 9) sc_law_game.nd rfl (.inl rfl) (e_call D_law_lots (fun σ => lets_of (L2N.takes_of rfl rfl rfl rfl) σ) hr (fa_cons (fd_var 8) (fa_cons (fd_var 5) fa_nil)))))) (fs_cons (fs_set (i := 10) sc_law_game.nd rfl (.inl rfl) (fd_add (fd_var 4) (fd_mod (e_int B (fa_cons (e_ix (fd_var 3) fd_int) fa_nil)) fd_int))) (fs_cons (fs_set (i := 11) sc_law_game.nd rfl (.inl rfl) (e_call D_law_costs (fun σ => lets_of (L2N.takes_of rfl rfl rfl rfl) σ) hr (fa_cons (e_call D_law_cell (fun σ => lets_of (L2N.takes_of rfl rfl rfl rfl) σ) hr (fa_cons (fd_var 0) (fa_cons (fd_add (fd_add (fd_var 1) fd_int) (fd_mul fd_int (fd_var 7))) fa_nil))) (fa_cons (fd_var 5) (fa_cons (fd_var 10) (fa_cons (e_eq hr (fd_mod (e_int B (fa_cons (e_ix (fd_var 3) fd_int) fa_nil)) fd_int) fd_int) fa_nil)))))) (fs_one (fs_app (i := 6) rfl (.inl rfl) (by decide) (by decide) (fd_tup (fa_cons (fd_tup (fa_cons (fd_var 5) (fa_cons (fd_var 9) fa_nil))) (fa_cons (fd_var 11) fa_nil))) rfl rfl rfl rfl rfl rfl))))))) (fs_frz 6 (fs_one (fs_ret (e_tuple B (fa_cons (fd_var 6) fa_nil)))))))))), hg, F.kp, hb⟩
abbrev s_law_size : Stmt := topS 46
theorem sc_law_size : FnScope ["game"] ["game"] (defScope s_law_size) := ⟨rfl, rfl, rfl, by decide +kernel, rfl, by decide +kernel, by decide +kernel⟩
theorem ok_law_size {a : Addr} {fd : FuncData} (F : Fun K "_law_size" "_law_size" s_law_size a fd) (hg : mg "_law_size" = some (.ref a)) (hb : Binds K fd ["game"] []) (B : Bi mg) : FnD P w K mg base Tb "_law_size" 1 m_law_size := ⟨a, fd, ["game"], fn_okD F sc_law_size fun cdv A outer s H E hr => 
  (fs_cons (fs_if (t_eq hr (e_len B (fa_cons (fd_var 0) fa_nil)) fd_int) (fs_one (fs_ret fd_int)) fs_nil) (fs_one (fs_ret (e_ix (e_ix (e_ix (fd_var 0) fd_int) fd_int) fd_int)))), hg, F.kp, hb⟩
abbrev s_law_is_free : Stmt := topS 40
theorem sc_law_is_free : FnScope ["lots", "row", "lot"] ["lots", "row"] (defScope s_law_is_free) := ⟨rfl, rfl, rfl, by decide +kernel, rfl, by decide +kernel, by decide +kernel⟩
theorem ok_law_is_free {a : Addr} {fd : FuncData} (F : Fun K "_law_is_free" "_law_is_free" s_law_is_free a fd) (D_law_within : FnD P w K mg base Tb "_law_within" 1 m_law_within) (hg : mg "_law_is_free" = some (.ref a)) (hb : Binds K fd ["lots", "row"] []) (B : Bi mg) : FnD P w K mg base Tb "_law_is_free" 2 m_law_is_free := ⟨a, fd, ["lots", "row"], fn_okD F sc_law_is_free fun cdv A outer s H E hr => 
  (fs_one (fs_ret (e_any B (fa_cons (fd_lc rfl sc_law_is_free.nd (fi_seq (fd_var 0)) (own := [("lot", 2)]) (blkOk_by (by rfl)) (fun _ _ _ _ _ => (fg_nm (i := 2) sc_law_is_free.nd rfl (.inl rfl))) (fun _ _ _ _ _ => ft_yes) (fun _ _ _ _ _ => (e_call D_law_within (fun σ => lets0 σ) hr (fa_cons (fd_var 1) (fa_cons (fd_var 2) fa_nil))))) fa_nil)))), hg, F.kp, hb⟩
abbrev s_law_cost : Stmt := topS 41
theorem sc_law_cost : FnScope ["game", "sets", "taker", "thing", "more", "load", "row"] ["game", "sets", "taker", "thing", "more"] (defScope s_law_cost) := ⟨rfl, rfl, rfl, by decide +kernel, rfl, by decide +kernel, by decide +kernel⟩
theorem ok_law_cost {a : Addr} {fd : FuncData} (F : Fun K "_law_cost" "_law_cost" s_law_cost a fd) (hg : mg "_law_cost" = some (.ref a)) (hb : Binds K fd ["game", "sets", "taker", "thing", "more"] []) (B : Bi mg) : FnD P w K mg base Tb "_law_cost" 1 m_law_cost := ⟨a, fd, ["game", "sets", "taker", "thing", "more"], fn_okD F sc_law_cost fun cdv A outer s H E hr => 
  (fs_cons (fs_set (i := 5) sc_law_cost.nd rfl (.inl rfl) (e_len B (fa_cons (fd_lc rfl sc_law_cost.nd (fi_seq (fd_var 1)) (own := [("row", 6)]) (blkOk_by (by rfl)) (fun _ _ _ _ _ => (fg_nm (i := 6) sc_law_cost.nd rfl (.inl rfl))) (fun _ _ _ _ _ => (ft_one (t_in hr (fd_var 3) (fd_var 6)))) (fun _ _ _ _ _ => (fd_var 6))) fa_nil))) (fs_one (fs_ret (e_ix (e_ix (e_ix (e_ix (fd_var 0) (fd_var 2)) fd_int) (fd_var 3)) (fd_sub (fd_add (fd_var 5) (fd_var 4)) fd_int))))), hg, F.kp, hb⟩
abbrev s_law_exchanged : Stmt := topS 29
theorem sc_law_exchanged : FnScope ["lot", "out", "put", "thing"] ["lot", "out", "put"] (defScope s_law_exchanged) := ⟨rfl, rfl, rfl, by decide +kernel, rfl, by decide +kernel, by decide +kernel⟩
theorem ok_law_exchanged {a : Addr} {fd : FuncData} (F : Fun K "_law_exchanged" "_law_exchanged" s_law_exchanged a fd) (hg : mg "_law_exchanged" = some (.ref a)) (hb : Binds K fd ["lot", "out", "put"] []) (B : Bi mg) : FnD P w K mg base Tb "_law_exchanged" 1 m_law_exchanged := ⟨a, fd, ["lot", "out", "put"], fn_okD F sc_law_exchanged fun cdv A outer s H E hr => 
  (fs_one (fs_ret (e_tuple B (fa_cons (e_sorted B hr (fa_cons (fd_add (fd_lc rfl sc_law_exchanged.nd (fi_seq (fd_var 0)) (own := [("thing", 3)]) (blkOk_by (by rfl)) (fun _ _ _ _ _ => (fg_nm (i := 3) sc_law_exchanged.nd rfl (.inl rfl))) (fun _ _ _ _ _ => (ft_one (t_ne hr (fd_var 3) (fd_var 1)))) (fun _ _ _ _ _ => (fd_var 3))) (fd_lst (fa_cons (fd_var 2) fa_nil))) fa_nil)) fa_nil)))), hg, F.kp, hb⟩
abbrev s_law_step : Stmt := topS 42
theorem sc_law_step : FnScope ["game", "sets", "move", "taker", "out", "put", "own", "larger"] ["game", "sets", "move"] (defScope s_law_step) := ⟨rfl, rfl, rfl, by decide +kernel, rfl, by decide +kernel, by decide +kernel⟩
theorem ok_law_step {a : Addr} {fd : FuncData} (F : Fun K "_law_step" "_law_step" s_law_step a fd) (D_law_is_free : FnD P w K mg base Tb "_law_is_free" 2 m_law_is_free) (D_law_cost : FnD P w K mg base Tb "_law_cost" 1 m_law_cost) (D_law_exchanged : FnD P w K mg base Tb "_law_exchanged" 1 m_law_exchanged) (hg : mg "_law_step" = some (.ref a)) (hb : Binds K fd ["game", "sets", "move"] []) (B : Bi mg) : FnD P w K mg base Tb "_law_step" 3 m_law_step := ⟨a, fd, ["game", "sets", "move"], fn_okD F sc_law_step fun cdv A outer s H E hr => 
  (fs_cons (fs_set (i := 3) sc_law_step.nd rfl (.inl rfl) (e_ix (fd_var 2) fd_int)) (fs_cons (fs_set (i := 4) sc_law_step.nd rfl (.inl rfl) (e_ix (fd_var 2) fd_int)) (fs_cons (fs_set (i := 5) sc_law_step.nd rfl (.inl rfl) (e_ix (fd_var 2) fd_int)) (fs_cons (fs_set (i := 6) sc_law_step.nd rfl (.inl rfl) (e_ix (fd_var 1) (fd_var 3))) (fs_cons (fs_if (t_in hr (fd_var 5) (fd_var 6)) (fs_one (fs_ret fd_non)) fs_nil) (fs_cons (fs_if (ft_isN (fd_var 4)) (fs_one (fs_set (i := 7) sc_law_step.nd rfl (.inl rfl) (e_tuple B (fa_cons (e_sorted B hr (fa_cons (fd_add (fd_var 6) (fd_tup (fa_cons (fd_var 5) fa_nil))) fa_nil)) fa_nil)))) (fs_one (fs_if (t_notin hr (fd_var 4) (fd_var 6)) (fs_one (fs_ret fd_non)) (fs_one (fs_if (t_lt (e_call D_law_cost (fun σ => lets_of (L2N.takes_of rfl rfl rfl rfl) σ) hr (fa_cons (fd_var 0) (fa_cons (fd_var 1) (fa_cons (fd_var 3) (fa_cons (fd_var 5) (fa_cons fd_int fa_nil)))))) (e_call D_law_cost (fun σ => lets_of (L2N.takes_of rfl rfl rfl rfl) σ) hr (fa_cons (fd_var 0) (fa_cons (fd_var 1) (fa_cons (fd_var 3) (fa_cons (fd_var 4) (fa_cons fd_int fa_nil))))))) (fs_one (fs_set (i := 7) sc_law_step.nd rfl (.inl rfl) (e_call D_law_exchanged (fun σ => lets_of (L2N.takes_of rfl rfl rfl rfl) σ) hr (fa_cons (fd_var 6) (fa_cons (fd_var 4) (fa_cons (fd_var 5) fa_nil)))))) (fs_one (fs_ret fd_non))))))) (fs_cons (fs_if (ft_not (ft_val (e_call D_law_is_free (fun σ => lets_of (L2N.takes_of rfl rfl rfl rfl) σ) hr (fa_cons (e_ix (e_ix (e_ix (fd_var 0) (fd_var 3)) fd_int) fd_int) (fa_cons (fd_var 7) fa_nil))))) (fs_one (fs_ret fd_non)) fs_nil) (fs_one (fs_ret (fd_add (fd_add (fd_cut (fd_var 1) fo_none (fo_some (fd_var 3))) (fd_tup (fa_cons (fd_var 7) fa_nil))) (fd_cut (fd_var 1) (fo_some (fd_add (fd_var 3) fd_int)) fo_none))))))))))), hg, F.kp, hb⟩
abbrev s_law_all_moves : Stmt := topS 43
theorem sc_law_all_moves : FnScope ["count", "size", "moves", "taker", "out", "put"] ["count", "size"] (defScope s_law_all_moves) := ⟨rfl, rfl, rfl, by decide +kernel, rfl, by decide +kernel, by decide +kernel⟩
theorem ok_law_all_moves {a : Addr} {fd : FuncData} (F : Fun K "_law_all_moves" "_law_all_moves" s_law_all_moves a fd) (hg : mg "_law_all_moves" = some (.ref a)) (hb : Binds K fd ["count", "size"] []) (B : Bi mg) : FnD P w K mg base Tb "_law_all_moves" 1 m_law_all_moves := ⟨a, fd, ["count", "size"], fn_okD F sc_law_all_moves fun cdv A outer s H E hr => 
  (fs_cons (fs_own (i := 2) sc_law_all_moves.nd rfl (.inl rfl) (fn_lst fa_nil)) (fs_cons (fs_for (passes_of rfl) rfl (fi_rng1 (by rfl) B.range (fa_cons (fd_var 0) fa_nil)) (fg_nm (i := 3) sc_law_all_moves.nd rfl (.inl rfl)) (fs_one (fs_for (passes_of rfl) rfl (fi_seq (fd_add (fd_lst (fa_cons fd_non fa_nil)) (fd_lstR1 rfl (by rfl) B.list (by rfl) B.range (fd_var 1)))) (fg_nm (i := 4) sc_law_all_moves.nd rfl (.inl rfl)) (fs_one (fs_for (passes_of rfl) rfl (fi_rng1 (by rfl) B.range (fa_cons (fd_var 1) fa_nil)) (fg_nm (i := 5) sc_law_all_moves.nd rfl (.inl rfl)) (fs_one (fs_app (i := 2) rfl (.inl rfl) (by decide) (by decide) (fd_tup (fa_cons (fd_var 3) (fa_cons (fd_var 4) (fa_cons (fd_var 5) fa_nil)))) rfl rfl rfl rfl rfl rfl))))))) (fs_frz 2 (fs_one (fs_ret (fd_var 2)))))), hg, F.kp, hb⟩
abbrev s_law_grown : Stmt := topS 44
theorem sc_law_grown : FnScope ["game", "draws", "size", "sets", "states", "log", "k", "allowed", "trades", "move", "taker"] ["game", "draws", "size"] (defScope s_law_grown) := ⟨rfl, rfl, rfl, by decide +kernel, rfl, by decide +kernel, by decide +kernel⟩
theorem ok_law_grown {a : Addr} {fd : FuncData} (F : Fun K "_law_grown" "_law_grown" s_law_grown a fd) (D_law_step : FnD P w K mg base Tb "_law_step" 3 m_law_step) (D_law_all_moves : FnD P w K mg base Tb "_law_all_moves" 1 m_law_all_moves) (hg : mg "_law_grown" = some (.ref a)) (hb : Binds K fd ["game", "draws", "size"] []) (B : Bi mg) : FnD P w K mg base Tb "_law_grown" 4 m_law_grown := ⟨a, fd, ["game", "draws", "size"], fn_okD F sc_law_grown fun cdv A outer s H E hr => 
  (fs_cons (fs_set (i := 3) sc_law_grown.nd rfl (.inr rfl) (e_tuple B (fa_cons (fd_lc rfl sc_law_grown.nd (fi_seq (fd_var 0)) (own := [("taker", 10)]) (blkOk_by (by rfl)) (fun _ _ _ _ _ => (fg_nm (i := 10) sc_law_grown.nd rfl (.inl rfl))) (fun _ _ _ _ _ => ft_yes) (fun _ _ _ _ _ => (fd_tup fa_nil))) fa_nil))) (fs_cons (fs_own (i := 4) sc_law_grown.nd rfl (.inl rfl) (fn_lst (fa_cons (fd_var 3) fa_nil))) (fs_cons (fs_own (i := 5) sc_law_grown.nd rfl (.inl rfl) (fn_lst fa_nil)) (fs_cons (fs_for (passes_of rfl) rfl (fi_rng1 (by rfl) B.range (fa_cons (fd_mod (e_int B (fa_cons (e_ix (fd_var 1) fd_int) fa_nil)) fd_int) fa_nil)) (fg_nm (i := 6) sc_law_grown.nd rfl (.inl rfl)) (fs_cons (fs_setLc (i := 7) rfl sc_law_grown.nd rfl rfl (by rfl) (fi_seq (e_call D_law_all_moves (fun σ => lets_of (L2N.takes_of rfl rfl rfl rfl) σ) hr (fa_cons (e_len B (fa_cons (fd_var 0) fa_nil)) (fa_cons (fd_var 2) fa_nil)))) (own := [("move", 9)]) (blkOk_by (by rfl)) (fun _ _ _ _ _ => (fg_nm (i := 9) sc_law_grown.nd rfl (.inl rfl))) (fun _ _ _ _ _ => (ft_one (ft_notN (e_call D_law_step (fun σ => lets0 σ) hr (fa_cons (fd_var 0) (fa_cons (fd_var 3) (fa_cons (fd_var 9) fa_nil))))))) (fun _ _ _ _ _ => (fd_var 9))) (fs_cons (fs_setLc (i := 8) rfl sc_law_grown.nd rfl rfl (by rfl) (fi_seq (fd_var 7)) (own := [("move", 9)]) (blkOk_by (by rfl)) (fun _ _ _ _ _ => (fg_nm (i := 9) sc_law_grown.nd rfl (.inl rfl))) (fun _ _ _ _ _ => (ft_one (ft_notN (e_ix (fd_var 9) fd_int)))) (fun _ _ _ _ _ => (fd_var 9))) (fs_cons (fs_if (PW.pt (fw_and (t_gt (e_len B (fa_cons (fd_var 8) fa_nil)) fd_int) (fw_and1 (t_eq hr (fd_mod (e_int B (fa_cons (e_ix (fd_var 1) (fd_add fd_int (fd_var 6))) fa_nil)) fd_int) fd_int)))) (fs_one (fs_set (i := 7) sc_law_grown.nd rfl (.inl rfl) (fd_var 8))) fs_nil) (fs_cons (fs_if (t_eq hr (e_len B (fa_cons (fd_var 7) fa_nil)) fd_int) (fs_one fs_brk) fs_nil) (fs_cons (fs_set (i := 9) sc_law_grown.nd rfl (.inl rfl) (e_ix (fd_var 7) (fd_mod (fd_div (e_int B (fa_cons (e_ix (fd_var 1) (fd_add fd_int (fd_var 6))) fa_nil)) fd_int) (e_len B (fa_cons (fd_var 7) fa_nil))))) (fs_cons (fs_set (i := 3) sc_law_grown.nd rfl (.inr rfl) (e_call D_law_step (fun σ => lets_of (L2N.takes_of rfl rfl rfl rfl) σ) hr (fa_cons (fd_var 0) (fa_cons (fd_var 3) (fa_cons (fd_var 9) fa_nil))))) (fs_cons (fs_app (i := 5) rfl (.inl rfl) (by decide) (by decide) (fd_var 9) rfl rfl rfl rfl rfl rfl) (fs_one (fs_app (i := 4) rfl (.inl rfl) (by decide) (by decide) (fd_var 3) rfl rfl rfl rfl rfl rfl)))))))))) (fs_frz 5 (fs_frz 4 (fs_one (fs_ret (fd_tup (fa_cons (e_tuple B (fa_cons (fd_var 5) fa_nil)) (fa_cons (fd_var 4) fa_nil))))))))))), hg, F.kp, hb⟩
abbrev s_law_is_integer : Stmt := topS 24
theorem sc_law_is_integer : FnScope ["value"] ["value"] (defScope s_law_is_integer) := ⟨rfl, rfl, rfl, by decide +kernel, rfl, by decide +kernel, by decide +kernel⟩
theorem ok_law_is_integer {a : Addr} {fd : FuncData} (F : Fun K "_law_is_integer" "_law_is_integer" s_law_is_integer a fd) (hg : mg "_law_is_integer" = some (.ref a)) (hb : Binds K fd ["value"] []) (B : Bi mg) : FnD P w K mg base Tb "_law_is_integer" 1 m_law_is_integer := ⟨a, fd, ["value"], fn_okD F sc_law_is_integer fun cdv A outer s H E hr => 
  (fs_one (fs_ret (fd_and (e_isInt B (fd_var 0)) (fd_one (fd_not (e_isBool B (fd_var 0))))))), hg, F.kp, hb⟩
theorem okH_law_is_integer {a : Addr} {fd : FuncData} (F : Fun K "_law_is_integer" "_law_is_integer" s_law_is_integer a fd) (hg : mg "_law_is_integer" = some (.ref a)) (hb : Binds K fd ["value"] []) (B : Bi mg) : FnDH P w K mg base Tb "_law_is_integer" 1 m_law_is_integer := ⟨a, fd, ["value"], fn_okH F sc_law_is_integer fun cdv A outer s H E p hot hr =>
  (fs_one (fs_ret (fd_and (e_isInt B (fd_var 0)) (fd_one (fd_not (e_isBool B (fd_var 0))))))), hg, F.kp, hb⟩
abbrev s_law_is_set : Stmt := topS 25
theorem sc_law_is_set : FnScope ["value", "size", "k"] ["value", "size"] (defScope s_law_is_set) := ⟨rfl, rfl, rfl, by decide +kernel, rfl, by decide +kernel, by decide +kernel⟩
theorem ok_law_is_set {a : Addr} {fd : FuncData} (F : Fun K "_law_is_set" "_law_is_set" s_law_is_set a fd) (D_law_is_integer : FnD P w K mg base Tb "_law_is_integer" 1 m_law_is_integer) (hg : mg "_law_is_set" = some (.ref a)) (hb : Binds K fd ["value", "size"] []) (B : Bi mg) : FnD P w K mg base Tb "_law_is_set" 2 m_law_is_set := ⟨a, fd, ["value", "size"], fn_okD F sc_law_is_set fun cdv A outer s H E hr => 
  (fs_cons (fs_if (ft_not (ft_val (e_isTuple B (fd_var 0)))) (fs_one (fs_ret fd_bl)) fs_nil) (fs_cons (fs_for (passes_of rfl) rfl (fi_rng1 (by rfl) B.range (fa_cons (e_len B (fa_cons (fd_var 0) fa_nil)) fa_nil)) (fg_nm (i := 2) sc_law_is_set.nd rfl (.inl rfl)) (fs_cons (fs_if (PW.pt (fw_or (ft_not (ft_val (e_call D_law_is_integer (fun σ => lets_of (L2N.takes_of rfl rfl rfl rfl) σ) hr (fa_cons (e_ix (fd_var 0) (fd_var 2)) fa_nil)))) (fw_or (t_lt (e_ix (fd_var 0) (fd_var 2)) fd_int) (fw_or1 (t_ge (e_ix (fd_var 0) (fd_var 2)) (fd_var 1)))))) (fs_one (fs_ret fd_bl)) fs_nil) (fs_one (fs_if (PW.pt (fw_and (t_gt (fd_var 2) fd_int) (fw_and1 (t_le (e_ix (fd_var 0) (fd_var 2)) (e_ix (fd_var 0) (fd_sub (fd_var 2) fd_int)))))) (fs_one (fs_ret fd_bl)) fs_nil)))) (fs_one (fs_ret fd_bl)))), hg, F.kp, hb⟩
abbrev s_law_are_sets : Stmt := topS 45
theorem sc_law_are_sets : FnScope ["told", "due", "size", "row"] ["told", "due", "size"] (defScope s_law_are_sets) := ⟨rfl, rfl, rfl, by decide +kernel, rfl, by decide +kernel, by decide +kernel⟩
theorem ok_law_are_sets {a : Addr} {fd : FuncData} (F : Fun K "_law_are_sets" "_law_are_sets" s_law_are_sets a fd) (D_law_is_set : FnD P w K mg base Tb "_law_is_set" 2 m_law_is_set) (hg : mg "_law_are_sets" = some (.ref a)) (hb : Binds K fd ["told", "due", "size"] []) (B : Bi mg) : FnD P w K mg base Tb "_law_are_sets" 3 m_law_are_sets_k65 := ⟨a, fd, ["told", "due", "size"], fn_okD F sc_law_are_sets fun cdv A outer s H E hr => 
  (fs_cons (fs_if (PW.pt (fw_or (ft_not (ft_val (e_isTuple B (fd_var 0)))) (fw_or1 (t_ne hr (fd_var 0) (fd_var 1))))) (fs_one (fs_ret fd_bl)) fs_nil) (fs_one (fs_ret (e_all B (fa_cons (fd_lc rfl sc_law_are_sets.nd (fi_seq (fd_var 0)) (own := [("row", 3)]) (blkOk_by (by rfl)) (fun _ _ _ _ _ => (fg_nm (i := 3) sc_law_are_sets.nd rfl (.inl rfl))) (fun _ _ _ _ _ => ft_yes) (fun _ _ _ _ _ => (e_call D_law_is_set (fun σ => lets0 σ) hr (fa_cons (fd_var 3) (fa_cons (fd_var 2) fa_nil))))) fa_nil))))), hg, F.kp, hb⟩
abbrev s_count_sets : Stmt := topS 13
theorem sc_count_sets : FnScope ["size", "sets", "thing", "things"] ["size", "sets"] (defScope s_count_sets) := ⟨rfl, rfl, rfl, by decide +kernel, rfl, by decide +kernel, by decide +kernel⟩
theorem ok_count_sets {a : Addr} {fd : FuncData} (F : Fun K "count_sets" "count_sets" s_count_sets a fd) (hg : mg "count_sets" = some (.ref a)) (hb : Binds K fd ["size", "sets"] []) (B : Bi mg) : FnD P w K mg base Tb "count_sets" 1 m_count_sets := ⟨a, fd, ["size", "sets"], fn_okD F sc_count_sets fun cdv A outer s H E hr => 
  (fs_one (fs_ret (fd_lc rfl sc_count_sets.nd (fi_rng1 (by rfl) B.range (fa_cons (fd_var 0) fa_nil)) (own := [("thing", 2)]) (blkOk_by (by rfl)) (fun _ _ _ _ _ => (fg_nm (i := 2) sc_count_sets.nd rfl (.inr rfl))) (fun _ _ _ _ _ => ft_yes) (fun _ _ _ _ _ => (e_len B (fa_cons (fd_lc rfl sc_count_sets.nd (fi_seq (fd_var 1)) (own := [("things", 3)]) (blkOk_by (by rfl)) (fun _ _ _ _ _ => (fg_nm (i := 3) sc_count_sets.nd rfl (.inl rfl))) (fun _ _ _ _ _ => (ft_one (t_in hr (fd_var 2) (fd_var 3)))) (fun _ _ _ _ _ => (fd_var 3))) fa_nil)))))), hg, F.kp, hb⟩
theorem okO_count_sets {a : Addr} {fd : FuncData} (F : Fun K "count_sets" "count_sets" s_count_sets a fd) (hg : mg "count_sets" = some (.ref a)) (hb : Binds K fd ["size", "sets"] []) (B : Bi mg) : FnO P w K mg base Tb "count_sets" 1 o_count_sets := ⟨a, fd, ["size", "sets"], fn_okO F sc_count_sets fun cdv A outer s H E hr => 
  (os_one (os_ret (o_maskL (fn_lc rfl sc_count_sets.nd (fi_rng1 (by rfl) B.range (fa_cons (fd_var 0) fa_nil)) (own := [("thing", 2)]) (blkOk_by (by rfl)) (fun _ _ _ _ _ => (fg_nm (i := 2) sc_count_sets.nd rfl (.inr rfl))) (fun _ _ _ _ _ => ft_yes) (fun _ _ _ _ _ => (e_len B (fa_cons (fd_lc rfl sc_count_sets.nd (fi_seq (fd_var 1)) (own := [("things", 3)]) (blkOk_by (by rfl)) (fun _ _ _ _ _ => (fg_nm (i := 3) sc_count_sets.nd rfl (.inl rfl))) (fun _ _ _ _ _ => (ft_one (t_in hr (fd_var 2) (fd_var 3)))) (fun _ _ _ _ _ => (fd_var 3))) fa_nil))))))), hg, F.kp, hb⟩
abbrev s_leave_out : Stmt := topS 9
theorem sc_leave_out : FnScope ["things", "out", "thing"] ["things", "out"] (defScope s_leave_out) := ⟨rfl, rfl, rfl, by decide +kernel, rfl, by decide +kernel, by decide +kernel⟩
theorem ok_leave_out {a : Addr} {fd : FuncData} (F : Fun K "leave_out" "leave_out" s_leave_out a fd) (hg : mg "leave_out" = some (.ref a)) (hb : Binds K fd ["things", "out"] []) (B : Bi mg) : FnD P w K mg base Tb "leave_out" 1 m_leave_out := ⟨a, fd, ["things", "out"], fn_okD F sc_leave_out fun cdv A outer s H E hr => 
  (fs_one (fs_ret (e_tuple B (fa_cons (fd_lc rfl sc_leave_out.nd (fi_seq (fd_var 0)) (own := [("thing", 2)]) (blkOk_by (by rfl)) (fun _ _ _ _ _ => (fg_nm (i := 2) sc_leave_out.nd rfl (.inl rfl))) (fun _ _ _ _ _ => (ft_one (t_ne hr (fd_var 2) (fd_var 1)))) (fun _ _ _ _ _ => (fd_var 2))) fa_nil)))), hg, F.kp, hb⟩
abbrev s_fewer_by_one : Stmt := topS 12
theorem sc_fewer_by_one : FnScope ["things", "thing"] ["things"] (defScope s_fewer_by_one) := ⟨rfl, rfl, rfl, by decide +kernel, rfl, by decide +kernel, by decide +kernel⟩
theorem ok_fewer_by_one {a : Addr} {fd : FuncData} (F : Fun K "fewer_by_one" "fewer_by_one" s_fewer_by_one a fd) (D_leave_out : FnD P w K mg base Tb "leave_out" 1 m_leave_out) (hg : mg "fewer_by_one" = some (.ref a)) (hb : Binds K fd ["things"] []) (B : Bi mg) : FnD P w K mg base Tb "fewer_by_one" 2 m_fewer_by_one := ⟨a, fd, ["things"], fn_okD F sc_fewer_by_one fun cdv A outer s H E hr => 
  (fs_one (fs_ret (fd_lc rfl sc_fewer_by_one.nd (fi_seq (fd_var 0)) (own := [("thing", 1)]) (blkOk_by (by rfl)) (fun _ _ _ _ _ => (fg_nm (i := 1) sc_fewer_by_one.nd rfl (.inl rfl))) (fun _ _ _ _ _ => ft_yes) (fun _ _ _ _ _ => (e_call D_leave_out (fun σ => lets0 σ) hr (fa_cons (fd_var 0) (fa_cons (fd_var 1) fa_nil))))))), hg, F.kp, hb⟩
abbrev s_free_sets : Stmt := topS 15
theorem sc_free_sets : FnScope ["offer", "free", "todo", "things"] ["offer"] (defScope s_free_sets) := ⟨rfl, rfl, rfl, by decide +kernel, rfl, by decide +kernel, by decide +kernel⟩
theorem ok_free_sets {a : Addr} {fd : FuncData} (F : Fun K "free_sets" "free_sets" s_free_sets a fd) (D_fewer_by_one : FnD P w K mg base Tb "fewer_by_one" 2 m_fewer_by_one) (hg : mg "free_sets" = some (.ref a)) (hb : Binds K fd ["offer"] []) (B : Bi mg) : FnD P w K mg base Tb "free_sets" 3 m_free_sets := ⟨a, fd, ["offer"], fn_okD F sc_free_sets fun cdv A outer s H E hr => 
  (fs_cons (fs_newD (i := 1) sc_free_sets.nd rfl (.inl rfl)) (fs_cons (fs_own (i := 2) sc_free_sets.nd rfl (.inl rfl) (fn_list (by rfl) B.list (fa_cons (e_ix (fd_var 0) fd_int) fa_nil))) (fs_cons (fs_while (fuel := fun _ => 1000000) (passes_of rfl) (ft_thaw (t_gt (e_len B (fa_cons (fd_var 2) fa_nil)) fd_int)) (fs_cons (fs_setPop (i := 2) (j := 3) sc_free_sets.nd rfl (.inl rfl) rfl (.inl rfl) (by decide) (by decide) (by decide) rfl rfl rfl) (fs_one (fs_if (ft_thaw (t_notinT hr (fd_var 3) (fd_var 1))) (fs_cons (fs_putD (i := 1) hr rfl (.inl rfl) (by decide) (by decide) (fd_var 3)) (fs_one (fs_ext (i := 2) rfl (.inl rfl) (by decide) (by decide) (e_call D_fewer_by_one (fun σ => lets_of (L2N.takes_of rfl rfl rfl rfl) σ) hr (fa_cons (fd_var 3) fa_nil)) rfl rfl rfl rfl rfl rfl))) fs_nil)))) (fs_frzD 1 (fs_one (fs_ret (fd_var 1))))))), hg, F.kp, hb⟩
abbrev s_Moment___init__ : Stmt := inClass (topS 17) 0
theorem sc_Moment___init__ : FnScope ["self", "size", "takers", "sets", "_", "costs", "offer"] ["self", "size", "takers", "sets"] (defScope s_Moment___init__) := ⟨rfl, rfl, rfl, by decide +kernel, rfl, by decide +kernel, by decide +kernel⟩
theorem ok_Moment___init__ {a : Addr} {fd : FuncData} {c_Moment : Addr} (F : Fun K "__init__" "Moment.__init__" s_Moment___init__ a fd) (A_Moment : ClsF K c_Moment ["costs", "free", "sets", "counts"]) (D_count_sets : FnD P w K mg base Tb "count_sets" 1 m_count_sets) (D_free_sets : FnD P w K mg base Tb "free_sets" 3 m_free_sets) (O_count_sets : FnO P w K mg base Tb "count_sets" 1 o_count_sets) (hm : Mk K c_Moment a) (hg : mg "Moment" = some (.ref c_Moment)) (hb : Binds K fd ["self", "size", "takers", "sets"] []) (B : Bi mg) : MkO P w K mg base Tb "Moment" c_Moment 4 (m_Moment___init__ c_Moment) := ⟨a, fd, ["self", "size", "takers", "sets"], hm, fn_okO F sc_Moment___init__ fun cdv A outer s H E hr => 
  (os_cons (os_fld A_Moment (by simp) (o_var 0) (o_maskL (fn_lc rfl sc_Moment___init__.nd (fi_seq (fd_var 2)) (own := [("_", 4), ("costs", 5)]) (blkOk_by (by rfl)) (fun _ _ _ _ _ => (fg_tup rfl (fgs_cons (fg_nm (i := 4) sc_Moment___init__.nd rfl (.inl rfl)) (fgs_cons (fg_nm (i := 5) sc_Moment___init__.nd rfl (.inl rfl)) fgs_nil)))) (fun _ _ _ _ _ => ft_yes) (fun _ _ _ _ _ => (fd_var 5))))) (os_cons (os_fld A_Moment (by simp) (o_var 0) (o_maskL (fn_lc rfl sc_Moment___init__.nd (fi_seq (fd_var 2)) (own := [("offer", 6), ("_", 4)]) (blkOk_by (by rfl)) (fun _ _ _ _ _ => (fg_tup rfl (fgs_cons (fg_nm (i := 6) sc_Moment___init__.nd rfl (.inl rfl)) (fgs_cons (fg_nm (i := 4) sc_Moment___init__.nd rfl (.inl rfl)) fgs_nil)))) (fun _ _ _ _ _ => ft_yes) (fun _ _ _ _ _ => (e_call D_free_sets (fun σ => lets0 σ) hr (fa_cons (fd_var 6) fa_nil)))))) (os_cons (os_fld A_Moment (by simp) (o_var 0) (o_maskL (fn_list (by rfl) B.list (fa_cons (fd_var 3) fa_nil)))) (os_one (os_fld A_Moment (by simp) (o_var 0) (o_callM O_count_sets (fun σ => lets_of (L2N.takes_of rfl rfl rfl rfl) σ) hr (oa_cons (o_mask (fd_var 1)) (oa_cons (o_mask (fd_var 3)) oa_nil)))))))), hb, hg⟩
abbrev s_empty_moment : Stmt := topS 20
theorem sc_empty_moment : FnScope ["game", "size", "_"] ["game"] (defScope s_empty_moment) := ⟨rfl, rfl, rfl, by decide +kernel, rfl, by decide +kernel, by decide +kernel⟩
theorem ok_empty_moment {a : Addr} {fd : FuncData} {c_Moment : Addr} (F : Fun K "_empty_moment" "_empty_moment" s_empty_moment a fd) (D_Moment___init__ : MkO P w K mg base Tb "Moment" c_Moment 4 (m_Moment___init__ c_Moment)) (hg : mg "_empty_moment" = some (.ref a)) (hb : Binds K fd ["game"] []) (B : Bi mg) : FnO P w K mg base Tb "_empty_moment" 6 (m_empty_moment c_Moment) := ⟨a, fd, ["game"], fn_okO F sc_empty_moment fun cdv A outer s H E hr => 
  (os_cons (os_set (i := 1) sc_empty_moment.nd rfl (.inl rfl) (o_mask (fd_if (t_gt (e_len B (fa_cons (fd_var 0) fa_nil)) fd_int) (e_ix (e_ix (e_ix (fd_var 0) fd_int) fd_int) fd_int) fd_int))) (os_one (os_ret (o_makeM D_Moment___init__ passesF hr (oa_cons (o_mask (fd_var 1)) (oa_cons (o_mask (fd_var 0)) (oa_cons (o_mask (fd_lc rfl sc_empty_moment.nd (fi_seq (fd_var 0)) (own := [("_", 2)]) (blkOk_by (by rfl)) (fun _ _ _ _ _ => (fg_nm (i := 2) sc_empty_moment.nd rfl (.inl rfl))) (fun _ _ _ _ _ => ft_yes) (fun _ _ _ _ _ => (fd_tup fa_nil)))) oa_nil))))))), hg, F.kp, hb⟩
abbrev s_put_in : Stmt := topS 10
theorem sc_put_in : FnScope ["things", "into"] ["things", "into"] (defScope s_put_in) := ⟨rfl, rfl, rfl, by decide +kernel, rfl, by decide +kernel, by decide +kernel⟩
theorem ok_put_in {a : Addr} {fd : FuncData} (F : Fun K "put_in" "put_in" s_put_in a fd) (hg : mg "put_in" = some (.ref a)) (hb : Binds K fd ["things", "into"] []) (B : Bi mg) : FnD P w K mg base Tb "put_in" 1 m_put_in := ⟨a, fd, ["things", "into"], fn_okD F sc_put_in fun cdv A outer s H E hr => 
  (fs_one (fs_ret (e_tuple B (fa_cons (e_sorted B hr (fa_cons (fd_add (fd_var 0) (fd_tup (fa_cons (fd_var 1) fa_nil))) fa_nil)) fa_nil)))), hg, F.kp, hb⟩
abbrev s_Moment_make : Stmt := inClass (topS 17) 6
theorem sc_Moment_make : FnScope ["self", "move", "taker", "out", "into", "kept"] ["self", "move"] (defScope s_Moment_make) := ⟨rfl, rfl, rfl, by decide +kernel, rfl, by decide +kernel, by decide +kernel⟩
theorem ok_Moment_make {a : Addr} {fd : FuncData} {c_Moment : Addr} (F : Fun K "make" "Moment.make" s_Moment_make a fd) (A_Moment : ClsF K c_Moment ["costs", "free", "sets", "counts"]) (D_put_in : FnD P w K mg base Tb "put_in" 1 m_put_in) (D_leave_out : FnD P w K mg base Tb "leave_out" 1 m_leave_out) (hm : Meth K c_Moment "make" a) (hb : Binds K fd ["self", "move"] []) (B : Bi mg) : MtO P w K mg base Tb c_Moment "make" 2 (m_Moment_make c_Moment) := ⟨A_Moment.cls, a, fd, ["self", "move"], hm, fn_okO F sc_Moment_make fun cdv A outer s H E hr => 
  (os_cons (os_asg (o_mask (fd_var 1)) (og_tup rfl (ogs_cons (og_nm (i := 2) sc_Moment_make.nd rfl (.inl rfl)) (ogs_cons (og_nm (i := 3) sc_Moment_make.nd rfl (.inl rfl)) (ogs_cons (og_nm (i := 4) sc_Moment_make.nd rfl (.inl rfl)) ogs_nil))))) (os_cons (os_set (i := 5) sc_Moment_make.nd rfl (.inl rfl) (o_ix (o_fld A_Moment (by simp) (o_var 0)) (o_mask (fd_var 2)))) (os_cons (os_if (o_maskB (ft_notN (fd_var 3))) (os_cons (os_set (i := 5) sc_Moment_make.nd rfl (.inl rfl) (o_mask (e_call D_leave_out (fun σ => lets_of (L2N.takes_of rfl rfl rfl rfl) σ) hr (fa_cons (fd_var 5) (fa_cons (fd_var 3) fa_nil))))) (os_one (os_augAtI ip_sub (o_fld A_Moment (by simp) (o_var 0)) (o_mask (fd_var 3)) (o_mask fd_int)))) os_nil) (os_cons (os_setAt (o_fld A_Moment (by simp) (o_var 0)) (o_mask (fd_var 2)) (o_mask (e_call D_put_in (fun σ => lets_of (L2N.takes_of rfl rfl rfl rfl) σ) hr (fa_cons (fd_var 5) (fa_cons (fd_var 4) fa_nil))))) (os_one (os_augAt (o_fld A_Moment (by simp) (o_var 0)) (o_mask (fd_var 4)) (o_mask fd_int))))))), hb⟩
abbrev s_Moment_can_add : Stmt := inClass (topS 17) 3
theorem sc_Moment_can_add : FnScope ["self", "taker", "thing", "things"] ["self", "taker", "thing"] (defScope s_Moment_can_add) := ⟨rfl, rfl, rfl, by decide +kernel, rfl, by decide +kernel, by decide +kernel⟩
theorem ok_Moment_can_add {a : Addr} {fd : FuncData} {c_Moment : Addr} (F : Fun K "can_add" "Moment.can_add" s_Moment_can_add a fd) (A_Moment : ClsF K c_Moment ["costs", "free", "sets", "counts"]) (D_put_in : FnD P w K mg base Tb "put_in" 1 m_put_in) (hm : Meth K c_Moment "can_add" a) (hb : Binds K fd ["self", "taker", "thing"] []) (B : Bi mg) : MtD P w K mg base Tb c_Moment "can_add" 2 (m_Moment_can_add c_Moment) := ⟨A_Moment.cls, a, fd, ["self", "taker", "thing"], hm, fn_okD F sc_Moment_can_add fun cdv A outer s H E hr => 
  (fs_cons (fs_set (i := 3) sc_Moment_can_add.nd rfl (.inl rfl) (e_ix (e_at A_Moment (by simp) (fd_var 0)) (fd_var 1))) (fs_one (fs_ret (fd_and (e_notin hr (fd_var 2) (fd_var 3)) (fd_one (e_inT hr (e_call D_put_in (fun σ => lets_of (L2N.takes_of rfl rfl rfl rfl) σ) hr (fa_cons (fd_var 3) (fa_cons (fd_var 2) fa_nil))) (e_ix (e_at A_Moment (by simp) (fd_var 0)) (fd_var 1)))))))), hb⟩
abbrev s_cost_at : Stmt := topS 7
theorem sc_cost_at : FnScope ["costs", "thing", "load"] ["costs", "thing", "load"] (defScope s_cost_at) := ⟨rfl, rfl, rfl, by decide +kernel, rfl, by decide +kernel, by decide +kernel⟩
theorem ok_cost_at {a : Addr} {fd : FuncData} (F : Fun K "cost_at" "cost_at" s_cost_at a fd) (hg : mg "cost_at" = some (.ref a)) (hb : Binds K fd ["costs", "thing", "load"] []) (B : Bi mg) : FnD P w K mg base Tb "cost_at" 1 m_cost_at := ⟨a, fd, ["costs", "thing", "load"], fn_okD F sc_cost_at fun cdv A outer s H E hr => 
  (fs_one (fs_ret (e_ix (e_ix (fd_var 0) (fd_var 1)) (fd_sub (fd_var 2) fd_int)))), hg, F.kp, hb⟩
abbrev s_Moment_cost_next : Stmt := inClass (topS 17) 2
theorem sc_Moment_cost_next : FnScope ["self", "taker", "thing"] ["self", "taker", "thing"] (defScope s_Moment_cost_next) := ⟨rfl, rfl, rfl, by decide +kernel, rfl, by decide +kernel, by decide +kernel⟩
theorem ok_Moment_cost_next {a : Addr} {fd : FuncData} {c_Moment : Addr} (F : Fun K "cost_next" "Moment.cost_next" s_Moment_cost_next a fd) (A_Moment : ClsF K c_Moment ["costs", "free", "sets", "counts"]) (D_cost_at : FnD P w K mg base Tb "cost_at" 1 m_cost_at) (hm : Meth K c_Moment "cost_next" a) (hb : Binds K fd ["self", "taker", "thing"] []) (B : Bi mg) : MtD P w K mg base Tb c_Moment "cost_next" 2 (m_Moment_cost_next c_Moment) := ⟨A_Moment.cls, a, fd, ["self", "taker", "thing"], hm, fn_okD F sc_Moment_cost_next fun cdv A outer s H E hr => 
  (fs_one (fs_ret (e_call D_cost_at (fun σ => lets_of (L2N.takes_of rfl rfl rfl rfl) σ) hr (fa_cons (e_ix (e_at A_Moment (by simp) (fd_var 0)) (fd_var 1)) (fa_cons (fd_var 2) (fa_cons (fd_add (e_ix (e_at A_Moment (by simp) (fd_var 0)) (fd_var 2)) fd_int) fa_nil)))))), hb⟩
abbrev s_Moment_cost_now : Stmt := inClass (topS 17) 1
theorem sc_Moment_cost_now : FnScope ["self", "taker", "thing"] ["self", "taker", "thing"] (defScope s_Moment_cost_now) := ⟨rfl, rfl, rfl, by decide +kernel, rfl, by decide +kernel, by decide +kernel⟩
theorem ok_Moment_cost_now {a : Addr} {fd : FuncData} {c_Moment : Addr} (F : Fun K "cost_now" "Moment.cost_now" s_Moment_cost_now a fd) (A_Moment : ClsF K c_Moment ["costs", "free", "sets", "counts"]) (D_cost_at : FnD P w K mg base Tb "cost_at" 1 m_cost_at) (hm : Meth K c_Moment "cost_now" a) (hb : Binds K fd ["self", "taker", "thing"] []) (B : Bi mg) : MtD P w K mg base Tb c_Moment "cost_now" 2 (m_Moment_cost_now c_Moment) := ⟨A_Moment.cls, a, fd, ["self", "taker", "thing"], hm, fn_okD F sc_Moment_cost_now fun cdv A outer s H E hr => 
  (fs_one (fs_ret (e_call D_cost_at (fun σ => lets_of (L2N.takes_of rfl rfl rfl rfl) σ) hr (fa_cons (e_ix (e_at A_Moment (by simp) (fd_var 0)) (fd_var 1)) (fa_cons (fd_var 2) (fa_cons (e_ix (e_at A_Moment (by simp) (fd_var 0)) (fd_var 2)) fa_nil)))))), hb⟩
abbrev s_exchange : Stmt := topS 11
theorem sc_exchange : FnScope ["things", "out", "into"] ["things", "out", "into"] (defScope s_exchange) := ⟨rfl, rfl, rfl, by decide +kernel, rfl, by decide +kernel, by decide +kernel⟩
theorem ok_exchange {a : Addr} {fd : FuncData} (F : Fun K "exchange" "exchange" s_exchange a fd) (D_put_in : FnD P w K mg base Tb "put_in" 1 m_put_in) (D_leave_out : FnD P w K mg base Tb "leave_out" 1 m_leave_out) (hg : mg "exchange" = some (.ref a)) (hb : Binds K fd ["things", "out", "into"] []) (B : Bi mg) : FnD P w K mg base Tb "exchange" 2 m_exchange := ⟨a, fd, ["things", "out", "into"], fn_okD F sc_exchange fun cdv A outer s H E hr => 
  (fs_one (fs_ret (e_call D_put_in (fun σ => lets_of (L2N.takes_of rfl rfl rfl rfl) σ) hr (fa_cons (e_call D_leave_out (fun σ => lets_of (L2N.takes_of rfl rfl rfl rfl) σ) hr (fa_cons (fd_var 0) (fa_cons (fd_var 1) fa_nil))) (fa_cons (fd_var 2) fa_nil))))), hg, F.kp, hb⟩
abbrev s_Moment_can_exchange : Stmt := inClass (topS 17) 4
theorem sc_Moment_can_exchange : FnScope ["self", "taker", "out", "into", "things"] ["self", "taker", "out", "into"] (defScope s_Moment_can_exchange) := ⟨rfl, rfl, rfl, by decide +kernel, rfl, by decide +kernel, by decide +kernel⟩
theorem ok_Moment_can_exchange {a : Addr} {fd : FuncData} {c_Moment : Addr} (F : Fun K "can_exchange" "Moment.can_exchange" s_Moment_can_exchange a fd) (A_Moment : ClsF K c_Moment ["costs", "free", "sets", "counts"]) (D_Moment_cost_next : MtD P w K mg base Tb c_Moment "cost_next" 2 (m_Moment_cost_next c_Moment)) (D_Moment_cost_now : MtD P w K mg base Tb c_Moment "cost_now" 2 (m_Moment_cost_now c_Moment)) (D_exchange : FnD P w K mg base Tb "exchange" 2 m_exchange) (hm : Meth K c_Moment "can_exchange" a) (hb : Binds K fd ["self", "taker", "out", "into"] []) (B : Bi mg) : MtD P w K mg base Tb c_Moment "can_exchange" 3 (m_Moment_can_exchange c_Moment) := ⟨A_Moment.cls, a, fd, ["self", "taker", "out", "into"], hm, fn_okD F sc_Moment_can_exchange fun cdv A outer s H E hr => 
  (fs_cons (fs_set (i := 4) sc_Moment_can_exchange.nd rfl (.inl rfl) (e_ix (e_at A_Moment (by simp) (fd_var 0)) (fd_var 1))) (fs_cons (fs_if (PW.pt (fw_or (t_notin hr (fd_var 2) (fd_var 4)) (fw_or (t_in hr (fd_var 3) (fd_var 4)) (fw_or1 (t_notinT hr (e_call D_exchange (fun σ => lets_of (L2N.takes_of rfl rfl rfl rfl) σ) hr (fa_cons (fd_var 4) (fa_cons (fd_var 2) (fa_cons (fd_var 3) fa_nil)))) (e_ix (e_at A_Moment (by simp) (fd_var 0)) (fd_var 1))))))) (fs_one (fs_ret fd_bl)) fs_nil) (fs_one (fs_ret (e_lt (e_methM D_Moment_cost_next (fun σ => lets_of (L2N.takes_of rfl rfl rfl rfl) σ) hr (fd_var 0) (fa_cons (fd_var 1) (fa_cons (fd_var 3) fa_nil))) (e_methM D_Moment_cost_now (fun σ => lets_of (L2N.takes_of rfl rfl rfl rfl) σ) hr (fd_var 0) (fa_cons (fd_var 1) (fa_cons (fd_var 2) fa_nil)))))))), hb⟩
abbrev s_Moment_is_allowed : Stmt := inClass (topS 17) 5
theorem sc_Moment_is_allowed : FnScope ["self", "move", "taker", "out", "into"] ["self", "move"] (defScope s_Moment_is_allowed) := ⟨rfl, rfl, rfl, by decide +kernel, rfl, by decide +kernel, by decide +kernel⟩
theorem ok_Moment_is_allowed {a : Addr} {fd : FuncData} {c_Moment : Addr} (F : Fun K "is_allowed" "Moment.is_allowed" s_Moment_is_allowed a fd) (A_Moment : ClsF K c_Moment ["costs", "free", "sets", "counts"]) (D_Moment_can_add : MtD P w K mg base Tb c_Moment "can_add" 2 (m_Moment_can_add c_Moment)) (D_Moment_can_exchange : MtD P w K mg base Tb c_Moment "can_exchange" 3 (m_Moment_can_exchange c_Moment)) (hm : Meth K c_Moment "is_allowed" a) (hb : Binds K fd ["self", "move"] []) (B : Bi mg) : MtD P w K mg base Tb c_Moment "is_allowed" 4 (m_Moment_is_allowed c_Moment) := ⟨A_Moment.cls, a, fd, ["self", "move"], hm, fn_okD F sc_Moment_is_allowed fun cdv A outer s H E hr => 
  (fs_cons (fs_asg (fd_var 1) (fg_tup rfl (fgs_cons (fg_nm (i := 2) sc_Moment_is_allowed.nd rfl (.inl rfl)) (fgs_cons (fg_nm (i := 3) sc_Moment_is_allowed.nd rfl (.inl rfl)) (fgs_cons (fg_nm (i := 4) sc_Moment_is_allowed.nd rfl (.inl rfl)) fgs_nil))))) (fs_one (fs_ret (fd_if (ft_isN (fd_var 3)) (e_methM D_Moment_can_add (fun σ => lets_of (L2N.takes_of rfl rfl rfl rfl) σ) hr (fd_var 0) (fa_cons (fd_var 2) (fa_cons (fd_var 4) fa_nil))) (e_methM D_Moment_can_exchange (fun σ => lets_of (L2N.takes_of rfl rfl rfl rfl) σ) hr (fd_var 0) (fa_cons (fd_var 2) (fa_cons (fd_var 3) (fa_cons (fd_var 4) fa_nil)))))))), hb⟩
abbrev s_replay : Stmt := topS 19
theorem sc_replay : FnScope ["game", "log", "moment", "position", "move"] ["game", "log"] (defScope s_replay) := ⟨rfl, rfl, rfl, by decide +kernel, rfl, by decide +kernel, by decide +kernel⟩
theorem ok_replay {a : Addr} {fd : FuncData} {c_BadMove c_Moment : Addr} (F : Fun K "replay" "replay" s_replay a fd) (A_Moment : ClsF K c_Moment ["costs", "free", "sets", "counts"]) (F_BadMove : ErrX K mg c_BadMove "position") (g_BadMove : mg "BadMove" = some (.ref c_BadMove)) (D_empty_moment : FnO P w K mg base Tb "_empty_moment" 6 (m_empty_moment c_Moment)) (D_Moment_make : MtO P w K mg base Tb c_Moment "make" 2 (m_Moment_make c_Moment)) (D_Moment_is_allowed : MtD P w K mg base Tb c_Moment "is_allowed" 4 (m_Moment_is_allowed c_Moment)) (hg : mg "replay" = some (.ref a)) (hb : Binds K fd ["game", "log"] []) (B : Bi mg) : FnD P w K mg base Tb "replay" 7 (m_replay_k66 c_BadMove c_Moment) := ⟨a, fd, ["game", "log"], (fn_okO F sc_replay fun cdv A outer s H E hr => 
  (os_cons (os_set (i := 2) sc_replay.nd rfl (.inl rfl) (o_callM D_empty_moment (fun σ => lets_of (L2N.takes_of rfl rfl rfl rfl) σ) hr (oa_cons (o_mask (fd_var 0)) oa_nil))) (os_cons (os_for (passes_of rfl) rfl (oi_mask (fi_enum (by rfl) B.enumerate (fa_cons (fd_var 1) fa_nil))) (og_tup rfl (ogs_cons (og_nm (i := 3) sc_replay.nd rfl (.inl rfl)) (ogs_cons (og_nm (i := 4) sc_replay.nd rfl (.inl rfl)) ogs_nil))) (os_cons (os_if (o_snapB (ft_not (ft_val (e_methM D_Moment_is_allowed (fun σ => lets_of (L2N.takes_of rfl rfl rfl rfl) σ) hr (fd_var 2) (fa_cons (fd_var 4) fa_nil))))) (os_one (os_raiseX (by rfl) (by exact L2N.takes_of rfl rfl rfl rfl) F_BadMove g_BadMove hr (o_mask (fd_var 3)) (by rfl))) os_nil) (os_one (os_expr (o_methM D_Moment_make (fun σ => lets_of (L2N.takes_of rfl rfl rfl rfl) σ) hr (o_var 2) (oa_cons (o_mask (fd_var 4)) oa_nil)))))) (os_one (os_ret (o_snap (e_tuple B (fa_cons (e_at A_Moment (by simp) (fd_var 2)) fa_nil)))))))).imp fun _ _ _ _ h => spD_pure h, hg, F.kp, hb⟩
abbrev s_law_refused : Stmt := topS 48
theorem sc_law_refused : FnScope ["game", "log", "e"] ["game", "log"] (defScope s_law_refused) := ⟨rfl, rfl, rfl, by decide +kernel, rfl, by decide +kernel, by decide +kernel⟩
theorem ok_law_refused {a : Addr} {fd : FuncData} {c_BadLine c_BadThing c_NotSmooth c_TakersrestError : Addr} {c_BadMove c_Moment : Addr} (F : Fun K "_law_refused" "_law_refused" s_law_refused a fd) (G_BadMove_position : ErrG K c_BadMove "position") (g_TakersrestError : mg "TakersrestError" = some (.ref c_TakersrestError)) (E_BadMove : ExcC K c_BadMove) (x_BadMove : PySem.W.exmOne K (.ref c_BadMove) (.ref c_TakersrestError) = some true) (i_BadMove_BadLine : PySem.W.kitOne K (.ref c_BadMove) (.ref c_BadLine) = some false) (i_BadMove_BadMove : PySem.W.kitOne K (.ref c_BadMove) (.ref c_BadMove) = some true) (i_BadMove_BadThing : PySem.W.kitOne K (.ref c_BadMove) (.ref c_BadThing) = some false) (i_BadMove_NotSmooth : PySem.W.kitOne K (.ref c_BadMove) (.ref c_NotSmooth) = some false) (i_BadMove_ValueError : PySem.W.kitOne K (.ref c_BadMove) (.type "ValueError") = some true) (g_BadLine : mg "BadLine" = some (.ref c_BadLine)) (g_BadMove : mg "BadMove" = some (.ref c_BadMove)) (g_BadThing : mg "BadThing" = some (.ref c_BadThing)) (g_NotSmooth : mg "NotSmooth" = some (.ref c_NotSmooth)) (z_ValueError : mg "ValueError" = none) (D_replay : FnD P w K mg base Tb "replay" 7 (m_replay_k66 c_BadMove c_Moment)) (D_law_is_integer : FnD P w K mg base Tb "_law_is_integer" 1 m_law_is_integer) (DH_law_is_integer : FnDH P w K mg base Tb "_law_is_integer" 1 m_law_is_integer) (hg : mg "_law_refused" = some (.ref a)) (hb : Binds K fd ["game", "log"] []) (B : Bi mg) : FnD P w K mg base Tb "_law_refused" 8 (m_law_refused_k66 c_BadMove c_Moment) := ⟨a, fd, ["game", "log"], fn_okD F sc_law_refused fun cdv A outer s H E hr => 
  (fs_cons (fs_try (i := 2) (cs := [c_BadMove]) rfl rfl sc_law_refused.nd rfl rfl rfl g_TakersrestError (List.forall_mem_cons.mpr ⟨x_BadMove, (fun _ h => nomatch h)⟩) (fun W pn xe tk pw => (fs_one (fs_expr (e_call D_replay (fun σ => lets_of tk σ) hr (fa_cons (fd_var 0) (fa_cons (fd_var 1) fa_nil)))))) (fun a oe cls dd pn hz hf => (fs_cons (fs_if (PW.pt (fw_or (ft_not (ft_val (e_isiB (i := 2) (bs := [(c_BadMove, true)]) (T := "ValueError") hz.zc hf B (List.forall_mem_cons.mpr ⟨⟨E_BadMove, i_BadMove_ValueError⟩, (fun _ h => nomatch h)⟩) z_ValueError rfl boot_ValueError rfl (.inl rfl)))) (fw_or1 (ft_not (ft_val (e_isiO (i := 2) (bs := [(c_BadMove, true)]) hz.zc hf B (List.forall_mem_cons.mpr ⟨⟨E_BadMove, i_BadMove_BadMove⟩, (fun _ h => nomatch h)⟩) g_BadMove rfl rfl (.inl rfl))))))) (fs_one (fs_ret fd_non)) fs_nil) (fs_cons (fs_if (PW.pt (fw_or (ft_val (e_isiOOO (i := 2) (bs := [(c_BadMove, false)]) hz.zc hf B (List.forall_mem_cons.mpr ⟨⟨E_BadMove, kit_any3 i_BadMove_BadLine i_BadMove_BadThing i_BadMove_NotSmooth⟩, (fun _ h => nomatch h)⟩) g_BadLine rfl g_BadThing rfl g_NotSmooth rfl rfl (.inl rfl))) (fw_or1 (ft_not (ft_val (e_callH DH_law_is_integer (fun σ => lets0 σ) (roomH_suite hr) (hotC_suite hz hf) (fa_cons (e_fld (i := 2) (cs := [c_BadMove]) hz.zc hf (List.forall_mem_cons.mpr ⟨G_BadMove_position, (fun _ h => nomatch h)⟩) rfl (.inl rfl)) fa_nil))))))) (fs_one (fs_ret fd_non)) fs_nil) (fs_one (fs_ret (e_fld (i := 2) (cs := [c_BadMove]) hz.zc hf (List.forall_mem_cons.mpr ⟨G_BadMove_position, (fun _ h => nomatch h)⟩) rfl (.inl rfl)))))))) (fs_one (fs_ret fd_non))), hg, F.kp, hb⟩
abbrev s_law_is_near : Stmt := topS 47
theorem sc_law_is_near : FnScope ["game", "sets", "move"] ["game", "sets", "move"] (defScope s_law_is_near) := ⟨rfl, rfl, rfl, by decide +kernel, rfl, by decide +kernel, by decide +kernel⟩
theorem ok_law_is_near {a : Addr} {fd : FuncData} (F : Fun K "_law_is_near" "_law_is_near" s_law_is_near a fd) (D_law_is_free : FnD P w K mg base Tb "_law_is_free" 2 m_law_is_free) (D_law_exchanged : FnD P w K mg base Tb "_law_exchanged" 1 m_law_exchanged) (hg : mg "_law_is_near" = some (.ref a)) (hb : Binds K fd ["game", "sets", "move"] []) (B : Bi mg) : FnD P w K mg base Tb "_law_is_near" 3 m_law_is_near := ⟨a, fd, ["game", "sets", "move"], fn_okD F sc_law_is_near fun cdv A outer s H E hr => 
  (fs_cons (fs_if (PW.pt (fw_or (ft_isN (e_ix (fd_var 2) fd_int)) (fw_or (t_notin hr (e_ix (fd_var 2) fd_int) (e_ix (fd_var 1) (e_ix (fd_var 2) fd_int))) (fw_or1 (t_in hr (e_ix (fd_var 2) fd_int) (e_ix (fd_var 1) (e_ix (fd_var 2) fd_int))))))) (fs_one (fs_ret fd_bl)) fs_nil) (fs_one (fs_ret (e_call D_law_is_free (fun σ => lets_of (L2N.takes_of rfl rfl rfl rfl) σ) hr (fa_cons (e_ix (e_ix (e_ix (fd_var 0) (e_ix (fd_var 2) fd_int)) fd_int) fd_int) (fa_cons (e_call D_law_exchanged (fun σ => lets_of (L2N.takes_of rfl rfl rfl rfl) σ) hr (fa_cons (e_ix (fd_var 1) (e_ix (fd_var 2) fd_int)) (fa_cons (e_ix (fd_var 2) fd_int) (fa_cons (e_ix (fd_var 2) fd_int) fa_nil)))) fa_nil)))))), hg, F.kp, hb⟩
abbrev s_law : Stmt := topS 49
theorem sc_law : FnScope ["script", "game", "size", "draws", "grown", "log", "sets", "moves", "more", "wrong", "near", "whole", "move", "k"] ["script"] (defScope s_law) := ⟨rfl, rfl, rfl, by decide +kernel, rfl, by decide +kernel, by decide +kernel⟩
theorem okF_law {a : Addr} {fd : FuncData} {c_BadMove c_Moment : Addr} (F : Fun K "law" "law" s_law a fd) (D_law_game : FnD P w K mg base Tb "_law_game" 5 m_law_game_k86) (D_law_size : FnD P w K mg base Tb "_law_size" 1 m_law_size) (D_law_draws : FnD P w K mg base Tb "_law_draws" 1 m_law_draws) (D_law_grown : FnD P w K mg base Tb "_law_grown" 4 m_law_grown) (D_law_all_moves : FnD P w K mg base Tb "_law_all_moves" 1 m_law_all_moves) (D_law_cell : FnD P w K mg base Tb "_law_cell" 1 m_law_cell) (D_law_are_sets : FnD P w K mg base Tb "_law_are_sets" 3 m_law_are_sets_k65) (D_law_refused : FnD P w K mg base Tb "_law_refused" 8 (m_law_refused_k66 c_BadMove c_Moment)) (D_replay : FnD P w K mg base Tb "replay" 7 (m_replay_k66 c_BadMove c_Moment)) (D_law_is_near : FnD P w K mg base Tb "_law_is_near" 3 m_law_is_near) (D_law_step : FnD P w K mg base Tb "_law_step" 3 m_law_step) (B : Bi mg) : FnOk P w K mg base (L2N.CX P w) 9 a fd ["script"] (spD K Tb (m_law_k66 c_BadMove c_Moment)) := fn_okD F sc_law fun cdv A outer s H E hr => 
  (fs_cons (fs_set (i := 1) sc_law.nd rfl (.inr rfl) (e_call D_law_game (fun σ => lets_of (L2N.takes_of rfl rfl rfl rfl) σ) hr (fa_cons (fd_var 0) (fa_cons fd_int (fa_cons fd_bl fa_nil))))) (fs_cons (fs_set (i := 2) sc_law.nd rfl (.inl rfl) (e_call D_law_size (fun σ => lets_of (L2N.takes_of rfl rfl rfl rfl) σ) hr (fa_cons (fd_var 1) fa_nil))) (fs_cons (fs_set (i := 3) sc_law.nd rfl (.inl rfl) (e_call D_law_draws (fun σ => lets_of (L2N.takes_of rfl rfl rfl rfl) σ) hr (fa_cons (e_call D_law_cell (fun σ => lets_of (L2N.takes_of rfl rfl rfl rfl) σ) hr (fa_cons (fd_var 0) (fa_cons fd_int fa_nil))) (fa_cons fd_int fa_nil)))) (fs_cons (fs_set (i := 4) sc_law.nd rfl (.inl rfl) (e_call D_law_grown (fun σ => lets_of (L2N.takes_of rfl rfl rfl rfl) σ) hr (fa_cons (fd_var 1) (fa_cons (fd_var 3) (fa_cons (fd_var 2) fa_nil))))) (fs_cons (fs_set (i := 5) sc_law.nd rfl (.inl rfl) (e_ix (fd_var 4) fd_int)) (fs_cons (fs_set (i := 6) sc_law.nd rfl (.inr rfl) (e_ix (e_ix (fd_var 4) fd_int) (e_len B (fa_cons (fd_var 5) fa_nil)))) (fs_cons (fs_if (ft_not (ft_val (e_call D_law_are_sets (fun σ => lets_of (L2N.takes_of rfl rfl rfl rfl) σ) hr (fa_cons (e_call D_replay (fun σ => lets_of (L2N.takes_of rfl rfl rfl rfl) σ) hr (fa_cons (fd_var 1) (fa_cons (fd_var 5) fa_nil))) (fa_cons (fd_var 6) (fa_cons (fd_var 2) fa_nil)))))) (fs_one (fs_ret fd_bl)) fs_nil) (fs_cons (fs_set (i := 7) sc_law.nd rfl (.inr rfl) (e_call D_law_all_moves (fun σ => lets_of (L2N.takes_of rfl rfl rfl rfl) σ) hr (fa_cons (e_len B (fa_cons (fd_var 1) fa_nil)) (fa_cons (fd_var 2) fa_nil)))) (fs_cons (fs_if (t_eq hr (e_len B (fa_cons (fd_var 7) fa_nil)) fd_int) (fs_one (fs_ret (e_eq hr (fd_var 5) (fd_tup fa_nil)))) fs_nil) (fs_cons (fs_set (i := 8) sc_law.nd rfl (.inr rfl) (e_call D_law_draws (fun σ => lets_of (L2N.takes_of rfl rfl rfl rfl) σ) hr (fa_cons (e_call D_law_cell (fun σ => lets_of (L2N.takes_of rfl rfl rfl rfl) σ) hr (fa_cons (fd_var 0) (fa_cons fd_int fa_nil))) (fa_cons fd_int fa_nil)))) (fs_cons (fs_setLc (i := 9) rfl sc_law.nd rfl rfl (by rfl) (fi_seq (fd_var 7)) (own := [("move", 12)]) (blkOk_by (by rfl)) (fun _ _ _ _ _ => (fg_nm (i := 12) sc_law.nd rfl (.inl rfl))) (fun _ _ _ _ _ => (ft_one (ft_isN (e_call D_law_step (fun σ => lets0 σ) hr (fa_cons (fd_var 1) (fa_cons (fd_var 6) (fa_cons (fd_var 12) fa_nil))))))) (fun _ _ _ _ _ => (fd_var 12))) (fs_cons (fs_setLc (i := 10) rfl sc_law.nd rfl rfl (by rfl) (fi_seq (fd_var 9)) (own := [("move", 12)]) (blkOk_by (by rfl)) (fun _ _ _ _ _ => (fg_nm (i := 12) sc_law.nd rfl (.inl rfl))) (fun _ _ _ _ _ => (ft_one (ft_val (e_call D_law_is_near (fun σ => lets0 σ) hr (fa_cons (fd_var 1) (fa_cons (fd_var 6) (fa_cons (fd_var 12) fa_nil))))))) (fun _ _ _ _ _ => (fd_var 12))) (fs_cons (fs_if (PW.pt (fw_and (t_gt (e_len B (fa_cons (fd_var 10) fa_nil)) fd_int) (fw_and1 (t_eq hr (fd_mod (e_int B (fa_cons (e_ix (fd_var 8) fd_int) fa_nil)) fd_int) fd_int)))) (fs_one (fs_set (i := 9) sc_law.nd rfl (.inl rfl) (fd_var 10))) fs_nil) (fs_cons (fs_set (i := 11) sc_law.nd rfl (.inl rfl) (fd_add (fd_var 5) (fd_tup (fa_cons (e_ix (fd_var 9) (fd_mod (e_int B (fa_cons (e_ix (fd_var 8) fd_int) fa_nil)) (e_len B (fa_cons (fd_var 9) fa_nil)))) fa_nil)))) (fs_cons (fs_set (i := 11) sc_law.nd rfl (.inl rfl) (fd_add (fd_var 11) (e_tuple B (fa_cons (fd_lc rfl sc_law.nd (fi_rng1 (by rfl) B.range (fa_cons (fd_mod (e_int B (fa_cons (e_ix (fd_var 8) fd_int) fa_nil)) fd_int) fa_nil)) (own := [("k", 13)]) (blkOk_by (by rfl)) (fun _ _ _ _ _ => (fg_nm (i := 13) sc_law.nd rfl (.inl rfl))) (fun _ _ _ _ _ => ft_yes) (fun _ _ _ _ _ => (e_ix (fd_var 7) (fd_mod (e_int B (fa_cons (e_ix (fd_var 8) (fd_add fd_int (fd_var 13))) fa_nil)) (e_len B (fa_cons (fd_var 7) fa_nil)))))) fa_nil)))) (fs_cons (fs_if (t_ne hr (e_call D_law_refused (fun σ => lets_of (L2N.takes_of rfl rfl rfl rfl) σ) hr (fa_cons (fd_var 1) (fa_cons (fd_var 11) fa_nil))) (e_len B (fa_cons (fd_var 5) fa_nil))) (fs_one (fs_ret fd_bl)) fs_nil) (fs_cons (fs_if (ft_not (ft_val (e_call D_law_are_sets (fun σ => lets_of (L2N.takes_of rfl rfl rfl rfl) σ) hr (fa_cons (e_call D_replay (fun σ => lets_of (L2N.takes_of rfl rfl rfl rfl) σ) hr (fa_cons (fd_var 1) (fa_cons (fd_cut (fd_var 11) fo_none (fo_some (e_len B (fa_cons (fd_var 5) fa_nil)))) fa_nil))) (fa_cons (fd_var 6) (fa_cons (fd_var 2) fa_nil)))))) (fs_one (fs_ret fd_bl)) fs_nil) (fs_one (fs_ret (e_eq hr (e_call D_law_refused (fun σ => lets_of (L2N.takes_of rfl rfl rfl rfl) σ) hr (fa_cons (fd_var 1) (fa_cons (fd_var 11) fa_nil))) (e_len B (fa_cons (fd_var 5) fa_nil))))))))))))))))))))))
end
end LW
set_option Elab.async false
set_option maxRecDepth 100000
set_option linter.all false
set_option maxHeartbeats 2000000
namespace LW
open PySem PySem.Spec PyProof.Rows L2 PD
theorem v_integer (x : Int) : m_law_is_integer [.int x] = .ok (.bool true) := by
  show endR (g_law_is_integer [some (.d (.int x))]) = _
  simp [g_law_is_integer, isi_int, isi_bool]
theorem v_within (a b : List Int) : m_law_within [tu a, tu b] = .ok (.bool (a.all fun x => decide (x ∈ b))) := by
  show endR (g_law_within [some (.d (tu a)), some (.d (tu b)), none]) = _
  simp [g_law_within]
theorem v_cell (ns : List Int) (k : Int) (h : 0 ≤ k) : ∃ c : Int, m_law_cell [li ns, .int k] = .ok (.int c) := by
  show ∃ c : Int, endR (g_law_cell [some (.d (li ns)), some (.d (.int k))]) = _
  by_cases hk : k < (ns.length : Int)
  · have hl : k.toNat < ns.length := by omega
    refine ⟨ns[k.toNat], ?_⟩
    simp [g_law_cell, hk, oIx_li h (List.getElem?_eq_getElem hl)]
  · refine ⟨5 * k + 3, ?_⟩
    simp [g_law_cell, hk, oMul_l]
theorem v_draws (c n : Int) (h0 : 0 ≤ n) (h1 : n ≤ 1000) : ∃ L : List Int, m_law_draws [.int c, .int n] = .ok (li L) ∧ L.length = n.toNat ∧ ∀ x ∈ L, 0 ≤ x ∧ x < 5040 := by
  show ∃ L : List Int, endR (g_law_draws [some (.d (.int c)), some (.d (.int n)), none, none, none, none, none, none]) = _ ∧ _
  have key := forGo_inv (i := 6) (g := b_law_draws_1) (enc := PyData.int) (fun xs ρ => ∃ (rest seed : Int) (dg : Bool) (L : List Int) (o6 o7 : Option Sl),
    ρ = [some (.d (.int c)), some (.d (.int n)), some (.d (.int rest)), some (.d (.bool dg)), some (.d (.int seed)), some (.own (L.map .int)), o6, o7] ∧ L.length + xs.length = n.toNat ∧ ∀ x ∈ L, 0 ≤ x ∧ x < 5040) (by
    rintro k xs ρ ⟨rest, seed, dg, L, o6, o7, rfl, hl, hL⟩
    have hl' : L.length + (xs.length + 1) = n.toNat := by simpa using hl
    have hs : L.length < sizeLine := line_lt (by omega)
    have app : ∀ y : Int, 0 ≤ y → y < 5040 → ∀ x ∈ L ++ [y], 0 ≤ x ∧ x < 5040 := fun y a b x hx => by
      rcases List.mem_append.mp hx with hx | hx
      · exact hL x hx
      · rw [List.mem_singleton.mp hx]; exact ⟨a, b⟩
    by_cases hb : dg = true ∧ 0 < rest
    · obtain ⟨rfl, hr⟩ := hb
      refine ⟨[some (.d (.int c)), some (.d (.int n)), some (.d (.int (rest.fdiv 5040))), some (.d (.bool true)), some (.d (.int seed)), some (.own ((L ++ [rest.fmod 5040]).map .int)), some (.d (.int k)), o7], ?_, rest.fdiv 5040, seed, true, L ++ [rest.fmod 5040], _, _, rfl, by simp; omega, app _ (fmod_lo _ (by decide)) (fmod_hi _ (by decide))⟩
      simp [b_law_draws_1, hr, oMod_int, oDiv_lit, hs]
    · have hc : (if dg = true then decide (0 < rest) else false) = false := by
        cases dg <;> simp_all
      have m1 := fmod_lo (seed * 48271 + (k + 1) * 69621 + 11) (b := 2147483647) (by decide)
      have m2 := fmod_hi (seed * 48271 + (k + 1) * 69621 + 11) (b := 2147483647) (by decide)
      generalize hm : (seed * 48271 + (k + 1) * 69621 + 11).fmod 2147483647 = mx at m1 m2
      refine ⟨[some (.d (.int c)), some (.d (.int n)), some (.d (.int rest)), some (.d (.bool dg)), some (.d (.int seed)), some (.own ((L ++ [(((mx * mx + 40692 * (k + 3)).fmod 2147483399).fdiv 64).fmod 5040]).map .int)), some (.d (.int k)), some (.d (.int ((mx * mx + 40692 * (k + 3)).fmod 2147483399)))], ?_,
        rest, seed, dg, L ++ [(((mx * mx + 40692 * (k + 3)).fmod 2147483399).fdiv 64).fmod 5040], _, _, rfl, by simp; omega, app _ (fmod_lo _ (by decide)) (fmod_hi _ (by decide))⟩
      have e1 : oMul (.int mx) (.int mx) = .ok (.int (mx * mx)) := oMul_l (by omega) (by omega)
      simp [b_law_draws_1, hc, oMod_int, oDiv_lit, hs, oMul_r, oMul_l, hm, e1]
      exact fun a b => absurd ⟨a, b⟩ hb)
  obtain ⟨ρ', e, rest, seed, dg, L, o6, o7, rfl, hl, hL⟩ := key (rangeI 0 n) [some (.d (.int c)), some (.d (.int n)), some (.d (.int (if c < 0 then -c else c))), some (.d (.bool (decide (1000000000000000000 ≤ (if c < 0 then -c else c))))), some (.d (.int (if c < 0 then -c else c))), some (.own []), none, none]
    ⟨_, _, _, [], none, none, rfl, by rw [rangeI_len]; simp, by simp⟩
  refine ⟨L, ?_, by simpa using hl, hL⟩
  simp [g_law_draws, rngA1_ok (show n ≤ 100000 by omega) (show -1000 ≤ n by omega), e]
def Asc (n : Int) (l : List Int) : Prop := l.Pairwise (· < ·) ∧ ∀ x ∈ l, 0 ≤ x ∧ x < n
theorem asc_len' : ∀ (l : List Int) (lo n : Int), l.Pairwise (· < ·) → (∀ x ∈ l, lo ≤ x ∧ x < n) → l.length ≤ (n - lo).toNat
  | [], _, _, _, _ => Nat.zero_le _
  | x :: xs, lo, n, h, b => by
    obtain ⟨h1, h2⟩ := List.pairwise_cons.mp h
    obtain ⟨b1, b2⟩ := b x List.mem_cons_self
    have ih := asc_len' xs (x + 1) n h2 fun y hy => ⟨by have := h1 y hy; omega, (b y (List.mem_cons_of_mem _ hy)).2⟩
    rw [List.length_cons]; omega
theorem Asc.len {n : Int} {l : List Int} (h : Asc n l) : l.length ≤ n.toNat := by
  have := asc_len' l 0 n h.1 h.2
  rwa [Int.sub_zero] at this
theorem Asc.nil (n : Int) : Asc n [] := ⟨.nil, by simp⟩
theorem asc_succ {k : Int} (hk : 0 ≤ k) {r : List Int} : Asc (k + 1) r ↔ Asc k r ∨ ∃ r', Asc k r' ∧ r' ++ [k] = r := by
  constructor
  · intro ⟨h1, h2⟩
    rcases List.eq_nil_or_concat r with rfl | ⟨r', z, rfl⟩
    · exact .inl (Asc.nil _)
    · rw [List.concat_eq_append] at h1 h2 ⊢
      obtain ⟨p1, _, p3⟩ := List.pairwise_append.mp h1
      have hz := h2 z (by simp)
      have hr : ∀ x ∈ r', x < z := fun x hx => p3 x hx z (by simp)
      by_cases e : z = k
      · subst e
        exact .inr ⟨r', ⟨p1, fun x hx => ⟨(h2 x (by simp [hx])).1, hr x hx⟩⟩, rfl⟩
      · refine .inl ⟨h1, fun x hx => ⟨(h2 x hx).1, ?_⟩⟩
        rcases List.mem_append.mp hx with hx | hx
        · have := hr x hx; omega
        · rw [List.mem_singleton.mp hx]; omega
  · rintro (⟨h1, h2⟩ | ⟨r', ⟨h1, h2⟩, rfl⟩)
    · exact ⟨h1, fun x hx => ⟨(h2 x hx).1, by have := (h2 x hx).2; omega⟩⟩
    · refine ⟨List.pairwise_append.mpr ⟨h1, List.pairwise_singleton _ _, fun a ha b hb => ?_⟩, fun x hx => ?_⟩
      · rw [List.mem_singleton.mp hb]; exact (h2 a ha).2
      · rcases List.mem_append.mp hx with hx | hx
        · have := h2 x hx; omega
        · rw [List.mem_singleton.mp hx]; omega
theorem rangeI_cons {k n : Int} (h : k < n) : rangeI k n = k :: rangeI (k + 1) n := by
  unfold rangeI
  have e : (n - k).toNat = (n - (k + 1)).toNat + 1 := by omega
  rw [e, List.range_succ_eq_map, List.map_cons, List.map_map]
  congr 1
  · simp
  · refine List.map_congr_left fun i _ => ?_
    show k + ((i + 1 : Nat) : Int) = k + 1 + (i : Int)
    omega
theorem rangeI_nil {k n : Int} (h : n ≤ k) : rangeI k n = [] := by
  unfold rangeI
  rw [show (n - k).toNat = 0 by omega]; rfl
theorem rangeI_inv {k n : Int} {x : Int} {xs : List Int} (h : x :: xs = rangeI k n) : k < n ∧ x = k ∧ xs = rangeI (k + 1) n := by
  by_cases hk : k < n
  · rw [rangeI_cons hk] at h
    exact ⟨hk, (List.cons.inj h).1, (List.cons.inj h).2⟩
  · rw [rangeI_nil (by omega)] at h; cases h
theorem lcR_mem {α β : Type} {f : α → R β} {g : α → β} {xs : List α} (h : ∀ x ∈ xs, f x = .ok (g x)) : lcR (fun _ => .ok true) f xs = .ok (xs.map g) := by
  have := lcR_of (p := fun _ => .ok true) (q := fun _ => true) (g := g) (xs := xs) fun x hx => ⟨rfl, fun _ => h x hx⟩
  rw [this, List.filter_eq_self.mpr (fun _ _ => rfl)]
/-- x lies strictly within none of the rows -/
def Top (rows : List (List Int)) (x : List Int) : Prop := ∀ o ∈ rows, x ≠ o → ¬ ∀ y ∈ x, y ∈ o
theorem top_iff {rows : List (List Int)} {x : List Int} : Top rows x ↔ ∀ o ∈ rows, ¬ x = o → ∃ y, y ∈ x ∧ ¬ y ∈ o := by
  constructor
  · intro h o ho e
    refine Classical.byContradiction fun hc => h o ho e fun y hy => Classical.byContradiction fun hn => hc ⟨y, hy, hn⟩
  · intro h o ho e hall
    obtain ⟨y, h1, h2⟩ := h o ho e
    exact h2 (hall y h1)
end LW
set_option Elab.async false
set_option maxRecDepth 100000
set_option linter.all false
set_option maxHeartbeats 2000000
namespace LW
open PySem PySem.Spec PyProof.Rows L2 PD
def ixv (L : List Int) (i : Int) : Int := (L[i.toNat]?).getD 0
def ixr (L : List (List Int)) (i : Int) : List Int := (L[i.toNat]?).getD []
theorem ix_li {L : List Int} {i : Int} (h0 : 0 ≤ i) (h1 : i < (L.length : Int)) : oIx (li L) (.int i) = .ok (.int (ixv L i)) := by
  have hl : i.toNat < L.length := by omega
  unfold ixv
  rw [oIx_li h0 (List.getElem?_eq_getElem hl), List.getElem?_eq_getElem hl]; rfl
theorem ix_tu {L : List Int} {i : Int} (h0 : 0 ≤ i) (h1 : i < (L.length : Int)) : oIx (tu L) (.int i) = .ok (.int (ixv L i)) := by
  have hl : i.toNat < L.length := by omega
  unfold ixv
  rw [oIx_tu h0 (List.getElem?_eq_getElem hl), List.getElem?_eq_getElem hl]; rfl
theorem ix_lt {L : List (List Int)} {i : Int} (h0 : 0 ≤ i) (h1 : i < (L.length : Int)) : oIx (lt L) (.int i) = .ok (tu (ixr L i)) := by
  have hl : i.toNat < L.length := by omega
  unfold ixr
  rw [oIx_lt h0 (List.getElem?_eq_getElem hl), List.getElem?_eq_getElem hl]; rfl
theorem ixv_mem {L : List Int} {i : Int} (h0 : 0 ≤ i) (h1 : i < (L.length : Int)) : ixv L i ∈ L := by
  have hl : i.toNat < L.length := by omega
  unfold ixv
  rw [List.getElem?_eq_getElem hl]; exact List.getElem_mem hl
theorem ixr_mem {L : List (List Int)} {i : Int} (h0 : 0 ≤ i) (h1 : i < (L.length : Int)) : ixr L i ∈ L := by
  have hl : i.toNat < L.length := by omega
  unfold ixr
  rw [List.getElem?_eq_getElem hl]; exact List.getElem_mem hl
theorem v_count (row cl : List Int) (c : Int) (h : ∀ x ∈ row, 0 ≤ x ∧ x < (cl.length : Int)) : m_law_count [tu row, li cl, .int c] = .ok (.int (row.filter fun x => ixv cl x == c).length) := by
  show endR (g_law_count [some (.d (tu row)), some (.d (li cl)), some (.d (.int c)), none]) = _
  simp [g_law_count]
  rw [lcR_of (q := fun x => ixv cl x == c) (g := fun x => PyData.int x)]
  · simp
  · intro x hx
    simp [ix_li (h x hx).1 (h x hx).2]
theorem v_leave_out (l : List Int) (x : Int) : m_leave_out [tu l, .int x] = .ok (tu (l.filter (fun y => !(y == x)))) := by
  show endR (g_leave_out [some (.d (tu l)), some (.d (.int x)), none]) = _
  simp [g_leave_out]
def gone (x : Int) (l : List Int) : List Int := (l.filter (fun y => !(y == x))).map fun y => if x < y then y - 1 else y
end LW
set_option Elab.async false
set_option maxRecDepth 100000
set_option linter.all false
set_option maxHeartbeats 2000000
namespace LW
open PySem PySem.Spec PyProof.Rows L2 PD
theorem asc_ix {l : List Int} (h : l.Pairwise (· < ·)) {i j : Int} (h0 : 0 ≤ i) (h1 : i < j) (h2 : j < (l.length : Int)) : ixv l i < ixv l j := by
  have a : i.toNat < l.length := by omega
  have b : j.toNat < l.length := by omega
  unfold ixv
  rw [List.getElem?_eq_getElem a, List.getElem?_eq_getElem b]
  exact List.pairwise_iff_getElem.mp h i.toNat j.toNat a b (by omega)
theorem v_is_set (l : List Int) (n : Int) (h : Asc n l) (hl : l.length ≤ 1000) : m_law_is_set [tu l, .int n] = .ok (.bool true) := by
  show endR (g_law_is_set [some (.d (tu l)), some (.d (.int n)), none]) = _
  have key := forGo_inv (i := 2) (g := b_law_is_set_1) (enc := PyData.int) (fun xs ρ => ∃ o2, ρ = [some (.d (tu l)), some (.d (.int n)), o2] ∧ ∀ k ∈ xs, 0 ≤ k ∧ k < (l.length : Int)) (by
    rintro k xs ρ ⟨o2, rfl, hk⟩
    obtain ⟨k0, k1⟩ := hk k List.mem_cons_self
    refine ⟨[some (.d (tu l)), some (.d (.int n)), some (.d (.int k))], ?_, _, rfl, fun y hy => hk y (List.mem_cons_of_mem _ hy)⟩
    have e := ix_tu (L := l) k0 k1
    have m := h.2 _ (ixv_mem k0 k1)
    have a1 : ¬ ixv l k < 0 := by omega
    have a2 : ¬ n ≤ ixv l k := by omega
    by_cases hp : 0 < k
    · have e2 := ix_tu (L := l) (i := k - 1) (by omega) (by omega)
      have a3 := asc_ix h.1 (i := k - 1) (j := k) (by omega) (by omega) k1
      have a4 : ¬ ixv l k ≤ ixv l (k - 1) := by omega
      simp [b_law_is_set_1, e, v_integer, a1, a2, hp, e2, a4]
    · simp [b_law_is_set_1, e, v_integer, a1, a2, hp])
  obtain ⟨ρ', e, o2, rfl, _⟩ := key (rangeI 0 l.length) [some (.d (tu l)), some (.d (.int n)), none] ⟨none, rfl, fun k hk => mem_rangeI.mp hk⟩
  simp [g_law_is_set, isi_tu, rngA1_ok (n := (l.length : Int)) (by omega) (by omega), e]
theorem asc_rest (n : Int) (p : Int → Bool) : Asc n ((rangeI 0 n).filter p) := ⟨(rangeI_asc 0 n).filter p, fun x hx => mem_rangeI.mp (List.mem_filter.mp hx).1⟩
end LW
set_option Elab.async false
set_option maxRecDepth 100000
set_option linter.all false
set_option maxHeartbeats 2000000
namespace LW
open PySem PySem.Spec PyProof.Rows L2 PD
def exch (l : List Int) (x t : Int) : List Int := sortI (l.filter (fun y => !(y == x)) ++ [t])
theorem v_law_exch (l : List Int) (x t : Int) (h : l.length ≤ 1000) : m_law_exchanged [tu l, .int x, .int t] = .ok (tu (exch l x t)) := by
  show endR (g_law_exchanged [some (.d (tu l)), some (.d (.int x)), some (.d (.int t)), none]) = _
  have hl := List.length_filter_le (fun y => !(y == x)) l
  have e1 : PyData.list [.int t] = li [t] := rfl
  have e2 := oAdd_li (a := l.filter (fun y => !(y == x))) (b := [t]) (by simp; omega)
  simp [g_law_exchanged, e1, e2, exch]
theorem v_put_in (l : List Int) (t : Int) (h : l.length ≤ 1000) : m_put_in [tu l, .int t] = .ok (tu (sortI (l ++ [t]))) := by
  show endR (g_put_in [some (.d (tu l)), some (.d (.int t))]) = _
  have e2 := oAdd_tu (a := l) (b := [t]) (by simp; omega)
  simp [g_put_in, e2]
theorem v_exchange (l : List Int) (x t : Int) (h : l.length ≤ 1000) : m_exchange [tu l, .int x, .int t] = .ok (tu (exch l x t)) := by
  show endR (g_exchange [some (.d (tu l)), some (.d (.int x)), some (.d (.int t))]) = _
  have hl := List.length_filter_le (fun y => !(y == x)) l
  simp [g_exchange, v_leave_out, v_put_in (l.filter fun y => !(y == x)) t (by omega), exch]
end LW
set_option Elab.async false
set_option maxRecDepth 100000
set_option linter.all false
set_option maxHeartbeats 2000000
namespace LW
open PySem PySem.Spec PyProof.Rows L2 PD
theorem ix_tt {L : List (List Int)} {i : Int} (h0 : 0 ≤ i) (h1 : i < (L.length : Int)) : oIx (tt L) (.int i) = .ok (tu (ixr L i)) := ix_lt (L := L) h0 h1
/-- what a lot does not have -/
def rest (n : Int) (l : List Int) : List Int := (rangeI 0 n).filter fun x => !decide (x ∈ l)
end LW
set_option Elab.async false
set_option maxRecDepth 100000
set_option linter.all false
set_option maxHeartbeats 2000000
namespace LW
open PySem PySem.Spec PyProof.Rows L2 PD
theorem asc_sub : ∀ {x o : List Int}, x.Pairwise (· < ·) → o.Pairwise (· < ·) → (∀ y ∈ x, y ∈ o) → x.Sublist o
  | [], o, _, _, _ => List.nil_sublist o
  | a :: x, [], _, _, h => absurd (h a List.mem_cons_self) (by simp)
  | a :: x, b :: o, hx, ho, h => by
    obtain ⟨x1, x2⟩ := List.pairwise_cons.mp hx
    obtain ⟨o1, o2⟩ := List.pairwise_cons.mp ho
    by_cases e : a = b
    · subst e
      refine (asc_sub x2 o2 fun y hy => ?_).cons_cons a
      rcases List.mem_cons.mp (h y (List.mem_cons_of_mem _ hy)) with z | z
      · have := x1 y hy; omega
      · exact z
    · have ha : a ∈ o := (List.mem_cons.mp (h a List.mem_cons_self)).resolve_left e
      have hb := o1 a ha
      refine (asc_sub hx o2 fun y hy => ?_).cons b
      rcases List.mem_cons.mp (h y hy) with z | z
      · rcases List.mem_cons.mp hy with q | q
        · omega
        · have := x1 y q; omega
      · exact z
theorem asc_ext {x o : List Int} (hx : x.Pairwise (· < ·)) (ho : o.Pairwise (· < ·)) (h : ∀ y, y ∈ x ↔ y ∈ o) : x = o :=
  let a := asc_sub hx ho fun y hy => (h y).mp hy
  a.eq_of_length (Nat.le_antisymm a.length_le (asc_sub ho hx fun y hy => (h y).mpr hy).length_le)
theorem mem_rest {n y : Int} {l : List Int} : y ∈ rest n l ↔ (0 ≤ y ∧ y < n) ∧ ¬ y ∈ l := by
  unfold rest
  rw [List.mem_filter, mem_rangeI]
  simp
theorem rest_asc (n : Int) (l : List Int) : Asc n (rest n l) := asc_rest n _
theorem rest_rest {n : Int} {l : List Int} (h : Asc n l) : rest n (rest n l) = l := by
  refine asc_ext (rest_asc n _).1 h.1 fun y => ?_
  rw [mem_rest, mem_rest]
  constructor
  · rintro ⟨a, b⟩
    exact Classical.byContradiction fun c => b ⟨a, c⟩
  · intro c
    exact ⟨h.2 y c, fun z => z.2 c⟩
/-- what the lots do not have -/
def opp (n : Int) (ls : List (List Int)) : List (List Int) := sortT (ls.map (rest n))
def has (x : Int) (l : List Int) : Bool := decide (x ∈ l)
end LW
set_option Elab.async false
set_option maxRecDepth 100000
set_option linter.all false
set_option maxHeartbeats 2000000
namespace LW
open PySem PySem.Spec PyProof.Rows L2 PD
/-- an offer as data -/
def ofr (n : Int) (ls : List (List Int)) : PyData := .tuple [.int n, tt ls]
/-- rows that an offer can have -/
structure Good (n : Int) (ls : List (List Int)) : Prop where
  asc : ∀ l ∈ ls, Asc n l
  asd : Asd ls
  ne : ls ≠ []
  len : ls.length ≤ 1000
theorem Good.opp {n : Int} {ls : List (List Int)} (g : Good n ls) : Good n (opp n ls) := by
  refine ⟨fun l hl => ?_, asd_sortT ?_, fun z => ?_, ?_⟩
  · obtain ⟨k, _, rfl⟩ := List.mem_map.mp (mem_sortT.mp hl)
    exact rest_asc n k
  · refine List.pairwise_map.mpr (g.asd.nodup.imp_of_mem fun {a b} ha hb ne e => ne ?_)
    rw [← rest_rest (g.asc a ha), ← rest_rest (g.asc b hb), e]
  · have : (LW.opp n ls).length = 0 := by rw [z]; rfl
    unfold LW.opp at this
    rw [(sortT_perm _).length_eq, List.length_map] at this
    exact g.ne (List.eq_nil_of_length_eq_zero this)
  · unfold LW.opp
    rw [(sortT_perm _).length_eq, List.length_map]
    exact g.len
end LW
set_option Elab.async false
set_option maxRecDepth 100000
set_option linter.all false
set_option maxHeartbeats 2000000
namespace LW
open PySem PySem.Spec PyProof.Rows L2 PD
theorem sortI_eq (l : List Int) : sortI l = l.mergeSort fun a b => decide (a ≤ b) := by
  have h : sortD (l.map PyData.int) = (l.mergeSort fun a b => decide (a ≤ b)).map PyData.int := by
    unfold sortD
    refine (List.map_mergeSort (f := PyData.int) (r := fun a b => decide (a ≤ b)) (s := PySem.W.dataLe false id) (l := l) fun a _ b _ => ?_).symm
    show decide (a ≤ b) = !(PySem.W.dataLt (.int b) (.int a))
    rw [PySem.W.dataLt_int, PySem.W.not_lt_int]
  have e := (sortD_ints l).1
  rw [h] at e
  have inj : ∀ {a b : List Int}, a.map PyData.int = b.map PyData.int → a = b := fun {a b} z => by
    induction a generalizing b with
    | nil => cases b with
      | nil => rfl
      | cons y b => cases z
    | cons x a ih => cases b with
      | nil => cases z
      | cons y b =>
        rw [List.map_cons, List.map_cons] at z
        obtain ⟨z1, z2⟩ := List.cons.inj z
        rw [PyData.int.inj z1, ih z2]
  exact (inj e).symm
theorem sortI_le (l : List Int) : (sortI l).Pairwise (· ≤ ·) := by
  rw [sortI_eq]
  exact (List.pairwise_mergeSort (le := fun a b : Int => decide (a ≤ b)) (fun a b c h1 h2 => by simp only [decide_eq_true_eq] at *; omega) (fun a b => by simp only [Bool.or_eq_true, decide_eq_true_eq]; omega) l).imp fun h => of_decide_eq_true h
theorem sortI_asc {n : Int} {l : List Int} (nd : l.Nodup) (h : ∀ x ∈ l, 0 ≤ x ∧ x < n) : Asc n (sortI l) := by
  refine ⟨((sortI_le l).and ((sortD_ints l).2.nodup_iff.mpr nd)).imp fun {a b} ⟨h1, h2⟩ => by omega, fun x hx => h x (mem_sortI.mp hx)⟩
theorem Asc.nodup {n : Int} {l : List Int} (h : Asc n l) : l.Nodup := h.1.imp fun {a b} z e => by omega
theorem mem_exch {l : List Int} {x t y : Int} : y ∈ exch l x t ↔ (y ∈ l ∧ ¬ y = x) ∨ y = t := by
  unfold exch
  rw [mem_sortI, List.mem_append, List.mem_filter, List.mem_singleton]
  simp
theorem exch_asc {n x t : Int} {l : List Int} (h : Asc n l) (ht : ¬ t ∈ l) (b : 0 ≤ t ∧ t < n) : Asc n (exch l x t) := by
  unfold exch
  refine sortI_asc ?_ fun y hy => ?_
  · rw [List.nodup_append]
    refine ⟨h.nodup.filter _, by simp, fun a ha c hc e => ?_⟩
    rw [List.mem_singleton.mp hc] at e
    exact ht (e ▸ (List.mem_filter.mp ha).1)
  · rcases List.mem_append.mp hy with z | z
    · exact h.2 y (List.mem_filter.mp z).1
    · rw [List.mem_singleton.mp z]; exact b
/-- all exchanges are there -/
def Exc (ls : List (List Int)) : Prop := ∀ l ∈ ls, ∀ x ∈ l, ∀ o ∈ ls, ¬ x ∈ o → ∃ t ∈ o, ¬ t ∈ l ∧ exch l x t ∈ ls
end LW
set_option Elab.async false
set_option maxRecDepth 100000
set_option linter.all false
set_option maxHeartbeats 2000000
namespace LW
open PySem PySem.Spec PyProof.Rows L2 PD
theorem gone_len {x : Int} : ∀ {l : List Int}, l.Nodup → (gone x l).length = if x ∈ l then l.length - 1 else l.length := by
  intro l nd
  unfold gone
  rw [List.length_map]
  induction l with
  | nil => rfl
  | cons y l ih =>
    obtain ⟨h1, h2⟩ := List.nodup_cons.mp nd
    by_cases c : y = x
    · subst c
      rw [List.filter_cons_of_neg (by simp), ih h2, if_neg h1, if_pos List.mem_cons_self]
      rfl
    · rw [List.filter_cons_of_pos (by simpa using c), List.length_cons, ih h2]
      by_cases d : x ∈ l
      · rw [if_pos d, if_pos (List.mem_cons_of_mem _ d), List.length_cons]
        have := List.length_pos_of_mem d
        omega
      · rw [if_neg d, if_neg fun z => by
          rcases List.mem_cons.mp z with z | z
          · exact c z.symm
          · exact d z]
        rfl
/-- all rows have the same number of things -/
def Eqs (ls : List (List Int)) : Prop := ∀ l ∈ ls, ∀ k ∈ ls, l.length = k.length
/-- lots of which all exchanges are there, all of one size -/
structure Smooth (n : Int) (ls : List (List Int)) : Prop where
  good : Good n ls
  exc : Exc ls
  eqs : Eqs ls
end LW
set_option Elab.async false
set_option maxRecDepth 100000
set_option linter.all false
set_option maxHeartbeats 2000000
namespace LW
open PySem PySem.Spec PyProof.Rows L2 PD
/-- how many of these things a lot has -/
def cnt (A l : List Int) : Nat := (l.filter fun y => decide (y ∈ A)).length
theorem sub_len {l k : List Int} (h : l.Pairwise (· < ·)) (h' : k.Pairwise (· < ·)) (s : ∀ y ∈ l, y ∈ k) : l.length ≤ k.length := (asc_sub h h' s).length_le
end LW
set_option Elab.async false
set_option maxRecDepth 100000
set_option linter.all false
set_option maxHeartbeats 2000000
set_option Elab.async false
set_option maxRecDepth 100000
set_option linter.all false
set_option maxHeartbeats 2000000
set_option Elab.async false
set_option maxRecDepth 100000
set_option linter.all false
set_option maxHeartbeats 2000000
set_option Elab.async false
set_option maxRecDepth 100000
set_option linter.all false
set_option maxHeartbeats 2000000
set_option Elab.async false
set_option maxRecDepth 100000
set_option linter.all false
set_option maxHeartbeats 4000000
set_option Elab.async false
set_option maxRecDepth 100000
set_option linter.all false
set_option maxHeartbeats 2000000
namespace LW
open PySem PySem.Spec PyProof.Rows L2 PD
/-- `near`, and what the first lot shares with l stays -/
theorem near_keep {n x : Int} {ls : List (List Int)} {l : List Int} (s : Smooth n ls) (hl : l ∈ ls) (hxl : ¬ x ∈ l) : ∀ (m : Nat) (k : List Int), k ∈ ls → x ∈ k → (k.filter fun y => !decide (y ∈ l)).length ≤ m → ∃ k' ∈ ls, x ∈ k' ∧ (∀ y ∈ k', ¬ y = x → y ∈ l) ∧ ∀ y ∈ k, y ∈ l → y ∈ k'
  | 0, k, hk, hxk, hm => by
    have e := List.eq_nil_of_length_eq_zero (Nat.le_zero.mp hm)
    have : x ∈ k.filter fun y => !decide (y ∈ l) := List.mem_filter.mpr ⟨hxk, by simpa using hxl⟩
    rw [e] at this
    cases this
  | m + 1, k, hk, hxk, hm => by
    by_cases c : ∀ y ∈ k, ¬ y = x → y ∈ l
    · exact ⟨k, hk, hxk, c, fun y hy _ => hy⟩
    · obtain ⟨z, hz⟩ := Classical.not_forall.mp c
      obtain ⟨z1, hz⟩ := Classical.not_imp.mp hz
      obtain ⟨z2, z3⟩ := Classical.not_imp.mp hz
      obtain ⟨t, t1, t2, t3⟩ := s.exc k hk z z1 l hl z3
      have ka := s.good.asc k hk
      have ea := s.good.asc _ t3
      have sub : ((exch k z t).filter fun y => !decide (y ∈ l)).length ≤ ((k.filter fun y => !decide (y ∈ l)).filter fun y => !(y == z)).length := by
        refine sub_len (ea.1.filter _) ((ka.1.filter _).filter _) fun y hy => ?_
        obtain ⟨y1, y2⟩ := List.mem_filter.mp hy
        have y3 : ¬ y ∈ l := by simpa using y2
        rcases mem_exch.mp y1 with q | q
        · exact List.mem_filter.mpr ⟨List.mem_filter.mpr ⟨q.1, y2⟩, by simpa using q.2⟩
        · exact absurd (q ▸ t1) y3
      have one := gone_len (x := z) (l := k.filter fun y => !decide (y ∈ l)) (ka.nodup.filter _)
      unfold gone at one
      rw [List.length_map, if_pos (List.mem_filter.mpr ⟨z1, by simpa using z3⟩)] at one
      obtain ⟨k', k1, k2, k3, k4⟩ := near_keep s hl hxl m (exch k z t) t3 (mem_exch.mpr (.inl ⟨hxk, fun e => z2 e.symm⟩)) (by omega)
      exact ⟨k', k1, k2, k3, fun y hy hyl => k4 y (mem_exch.mpr (.inl ⟨hy, fun e => z3 (e ▸ hyl)⟩)) hyl⟩
/-- the exchange from the other side: x comes in, a thing of l alone goes -/
theorem exc_in {n x : Int} {ls : List (List Int)} {l o : List Int} (s : Smooth n ls) (hl : l ∈ ls) (hxl : ¬ x ∈ l) (ho : o ∈ ls) (hxo : x ∈ o) : ∃ t ∈ l, ¬ t ∈ o ∧ exch l t x ∈ ls := by
  obtain ⟨k, k1, k2, k3, k4⟩ := near_keep s hl hxl _ o ho hxo (Nat.le_refl _)
  have la := s.good.asc l hl
  have ka := s.good.asc k k1
  have e := s.eqs k k1 l hl
  have e1 := gone_len (x := x) ka.nodup
  unfold gone at e1
  rw [List.length_map, if_pos k2] at e1
  have pos := List.length_pos_of_mem k2
  -- some thing of l is not in k
  have out : ∃ t, t ∈ l ∧ ¬ t ∈ k := Classical.byContradiction fun no => by
    have a : ∀ t ∈ l, t ∈ k.filter fun y => !(y == x) := fun t ht => List.mem_filter.mpr ⟨Classical.byContradiction fun z => no ⟨t, ht, z⟩, by simpa using fun z : t = x => hxl (z ▸ ht)⟩
    have := sub_len la.1 (ka.1.filter _) a
    omega
  obtain ⟨t, t1, t2⟩ := out
  have e2 := gone_len (x := t) la.nodup
  unfold gone at e2
  rw [List.length_map, if_pos t1] at e2
  have sub : (k.filter fun y => !(y == x)).Sublist (l.filter fun y => !(y == t)) := asc_sub (ka.1.filter _) (la.1.filter _) fun y hy => by
    obtain ⟨y1, y2⟩ := List.mem_filter.mp hy
    exact List.mem_filter.mpr ⟨k3 y y1 (by simpa using y2), by simpa using fun z : y = t => t2 (z ▸ y1)⟩
  have same := sub.eq_of_length (by rw [e1, e2, e])
  refine ⟨t, t1, fun z => t2 (k4 t z t1), ?_⟩
  have : exch l t x = k := asc_ext (exch_asc la hxl (ka.2 x k2)).1 ka.1 fun y => by
    rw [mem_exch]
    constructor
    · rintro (⟨a, b⟩ | a)
      · have : y ∈ l.filter fun y => !(y == t) := List.mem_filter.mpr ⟨a, by simpa using b⟩
        rw [← same] at this
        exact (List.mem_filter.mp this).1
      · exact a ▸ k2
    · intro h
      by_cases c : y = x
      · exact .inr c
      · exact .inl ⟨k3 y h c, fun z => t2 (z ▸ h)⟩
  rw [this]
  exact k1
theorem rest_exch {n t x : Int} {l : List Int} (h : Asc n l) (hx : ¬ x ∈ l) (hb : 0 ≤ x ∧ x < n) (ht : t ∈ l) : exch (rest n l) x t = rest n (exch l t x) := by
  have htx : ¬ t = x := fun z => hx (z ▸ ht)
  refine asc_ext (exch_asc (rest_asc n l) (fun z => (mem_rest.mp z).2 ht) (h.2 t ht)).1 (rest_asc _ _).1 fun y => ?_
  rw [mem_exch, mem_rest, mem_rest, mem_exch]
  constructor
  · rintro (⟨⟨a, b⟩, c⟩ | a)
    · exact ⟨a, fun z => z.elim (fun z => b z.1) c⟩
    · rw [a]
      exact ⟨h.2 t ht, fun z => z.elim (fun z => z.2 rfl) htx⟩
  · rintro ⟨a, b⟩
    by_cases c : y = t
    · exact .inr c
    · exact .inl ⟨⟨a, fun z => b (.inl ⟨z, c⟩)⟩, fun z => b (.inr z)⟩
theorem mem_opp {n : Int} {ls : List (List Int)} {l : List Int} : l ∈ opp n ls ↔ ∃ k ∈ ls, rest n k = l := by
  unfold opp
  rw [mem_sortT, List.mem_map]
theorem rest_len {n : Int} {l : List Int} (h : Asc n l) : (rest n l).length + l.length = (rangeI 0 n).length := by
  have e : l = (rangeI 0 n).filter fun x => decide (x ∈ l) := asc_ext h.1 ((rangeI_asc 0 n).filter _) fun y => by
    rw [List.mem_filter, mem_rangeI]
    exact ⟨fun z => ⟨h.2 y z, decide_eq_true z⟩, fun z => of_decide_eq_true z.2⟩
  have sp : ∀ (m : List Int) (p : Int → Bool), (m.filter fun y => !p y).length + (m.filter p).length = m.length := fun m p => by
    induction m with
    | nil => rfl
    | cons y m ih =>
      cases q : p y with
      | true => rw [List.filter_cons_of_neg (p := fun y => !p y) (by simp [q]), List.filter_cons_of_pos (p := p) q, List.length_cons, List.length_cons]; omega
      | false => rw [List.filter_cons_of_pos (p := fun y => !p y) (by simp [q]), List.filter_cons_of_neg (p := p) (by simp [q]), List.length_cons, List.length_cons]; omega
  have := sp (rangeI 0 n) fun x => decide (x ∈ l)
  rw [← e] at this
  exact this
theorem Smooth.opp {n : Int} {ls : List (List Int)} (s : Smooth n ls) : Smooth n (opp n ls) := by
  refine ⟨s.good.opp, ?_, ?_⟩
  · intro l' hl' x hx o' ho' nx
    obtain ⟨l, hl, rfl⟩ := mem_opp.mp hl'
    obtain ⟨o, ho, rfl⟩ := mem_opp.mp ho'
    obtain ⟨xb, xl⟩ := mem_rest.mp hx
    have xo : x ∈ o := Classical.byContradiction fun z => nx (mem_rest.mpr ⟨xb, z⟩)
    obtain ⟨t, t1, t2, t3⟩ := exc_in s hl xl ho xo
    refine ⟨t, mem_rest.mpr ⟨(s.good.asc l hl).2 t t1, t2⟩, fun z => (mem_rest.mp z).2 t1, ?_⟩
    rw [rest_exch (s.good.asc l hl) xl xb t1]
    exact mem_opp.mpr ⟨_, t3, rfl⟩
  · intro l' hl' k' hk'
    obtain ⟨l, hl, rfl⟩ := mem_opp.mp hl'
    obtain ⟨k, hk, rfl⟩ := mem_opp.mp hk'
    have a := rest_len (s.good.asc l hl)
    have b := rest_len (s.good.asc k hk)
    have c := s.eqs l hl k hk
    omega
end LW
set_option Elab.async false
set_option maxRecDepth 100000
set_option linter.all false
set_option maxHeartbeats 2000000
namespace LW
open PySem PySem.Spec PyProof.Rows L2 PD
/-- the things of a row in one class -/
def cls (cf : Int → Int) (k : Int) (l : List Int) : Nat := (l.filter fun x => cf x == k).length
def Fit (cf bf : Int → Int) (l : List Int) : Prop := ∀ k, 0 ≤ k → k < 3 → (cls cf k l : Int) ≤ bf k
theorem cls_sum {cf : Int → Int} : ∀ {l : List Int}, (∀ x ∈ l, 0 ≤ cf x ∧ cf x < 3) → l.length = cls cf 0 l + cls cf 1 l + cls cf 2 l
  | [], _ => rfl
  | x :: l, h => by
    have ih := cls_sum (cf := cf) (l := l) fun y hy => h y (List.mem_cons_of_mem _ hy)
    have hx := h x List.mem_cons_self
    have one : ∀ k, cls cf k (x :: l) = cls cf k l + if cf x = k then 1 else 0 := fun k => by
      unfold cls
      by_cases c : cf x = k
      · rw [List.filter_cons_of_pos (by simpa using c), if_pos c, List.length_cons]
      · rw [List.filter_cons_of_neg (by simpa using c), if_neg c]
        rfl
    rw [one, one, one, List.length_cons, ih]
    have : cf x = 0 ∨ cf x = 1 ∨ cf x = 2 := by omega
    rcases this with e | e | e <;> rw [e] <;> simp <;> omega
theorem cls_perm {cf : Int → Int} {k : Int} {l m : List Int} (p : l.Perm m) : cls cf k l = cls cf k m := (p.filter _).length_eq
theorem cls_exch {cf : Int → Int} {k x t : Int} {l : List Int} : cls cf k (exch l x t) = cls cf k (l.filter fun y => !(y == x)) + if cf t = k then 1 else 0 := by
  have p : (exch l x t).Perm (l.filter (fun y => !(y == x)) ++ [t]) := (sortD_ints _).2
  rw [cls_perm p]
  unfold cls
  rw [List.filter_append, List.length_append]
  congr 1
  by_cases c : cf t = k
  · rw [if_pos c, List.filter_cons_of_pos (by simpa using c)]
    rfl
  · rw [if_neg c, List.filter_cons_of_neg (by simpa using c)]
    rfl
theorem exch_len {x t : Int} {l : List Int} (nd : l.Nodup) (hx : x ∈ l) : (exch l x t).length = l.length := by
  have p : (exch l x t).Perm (l.filter (fun y => !(y == x)) ++ [t]) := (sortD_ints _).2
  have e := gone_len (x := x) nd
  unfold gone at e
  rw [List.length_map, if_pos hx] at e
  have pos := List.length_pos_of_mem hx
  rw [p.length_eq, List.length_append, e]
  show l.length - 1 + 1 = l.length
  omega
theorem fit_exc {n x : Int} {cf bf : Int → Int} {l o : List Int} (hc : ∀ x, 0 ≤ x → x < n → 0 ≤ cf x ∧ cf x < 3) (la : Asc n l) (oa : Asc n o) (lf : Fit cf bf l) (of : Fit cf bf o) (e : l.length = o.length) (hx : x ∈ l) (nx : ¬ x ∈ o) :
    ∃ t ∈ o, ¬ t ∈ l ∧ Asc n (exch l x t) ∧ Fit cf bf (exch l x t) ∧ (exch l x t).length = l.length := by
  have cr : ∀ {m : List Int}, Asc n m → ∀ y ∈ m, 0 ≤ cf y ∧ cf y < 3 := fun {m} ma y hy => hc y (ma.2 y hy).1 (ma.2 y hy).2
  have g := gone_len (x := x) la.nodup
  unfold gone at g
  rw [List.length_map, if_pos hx] at g
  have pos := List.length_pos_of_mem hx
  have s1 := cls_sum (cf := cf) (cr oa)
  have s2 := cls_sum (cf := cf) (l := l.filter fun y => !(y == x)) fun y hy => cr la y (List.mem_filter.mp hy).1
  have more : ∃ k, (0 ≤ k ∧ k < 3) ∧ cls cf k (l.filter fun y => !(y == x)) < cls cf k o := by
    by_cases a : cls cf 0 (l.filter fun y => !(y == x)) < cls cf 0 o
    · exact ⟨0, by omega, a⟩
    · by_cases b : cls cf 1 (l.filter fun y => !(y == x)) < cls cf 1 o
      · exact ⟨1, by omega, b⟩
      · exact ⟨2, by omega, by omega⟩
  obtain ⟨k, hk, lt⟩ := more
  have new : ∃ t ∈ o, cf t = k ∧ ¬ t ∈ l.filter fun y => !(y == x) := Classical.byContradiction fun no => by
    have : cls cf k o ≤ cls cf k (l.filter fun y => !(y == x)) := sub_len (oa.1.filter _) ((la.1.filter _).filter _) fun y hy => by
      obtain ⟨y1, y2⟩ := List.mem_filter.mp hy
      exact List.mem_filter.mpr ⟨Classical.byContradiction fun z => no ⟨y, y1, by simpa using y2, z⟩, y2⟩
    omega
  obtain ⟨t, t1, t2, t3⟩ := new
  have tl : ¬ t ∈ l := fun z => t3 (List.mem_filter.mpr ⟨z, by simpa using fun e : t = x => nx (e ▸ t1)⟩)
  refine ⟨t, t1, tl, exch_asc la tl (oa.2 t t1), fun j j0 j1 => ?_, exch_len la.nodup hx⟩
  rw [cls_exch]
  by_cases c : cf t = j
  · rw [if_pos c]
    have := of j j0 j1
    rw [← c, t2] at this ⊢
    omega
  · rw [if_neg c]
    have a := lf j j0 j1
    have : cls cf j (l.filter fun y => !(y == x)) ≤ cls cf j l := sub_len ((la.1.filter _).filter _) (la.1.filter _) fun y hy => by
      obtain ⟨y1, y2⟩ := List.mem_filter.mp hy
      exact List.mem_filter.mpr ⟨(List.mem_filter.mp y1).1, y2⟩
    omega
/-- a part of a row that fits does -/
theorem fit_take {cf bf : Int → Int} {l : List Int} (h : Fit cf bf l) (m : Nat) : Fit cf bf (l.take m) := fun k k0 k1 => by
  have a := h k k0 k1
  have b : cls cf k (l.take m) ≤ cls cf k l := ((List.take_sublist m l).filter _).length_le
  omega
theorem asc_take {n : Int} {l : List Int} (h : Asc n l) (m : Nat) : Asc n (l.take m) := ⟨h.1.sublist (List.take_sublist m l), fun x hx => h.2 x (List.mem_of_mem_take hx)⟩
end LW
set_option Elab.async false
set_option maxRecDepth 100000
set_option linter.all false
set_option maxHeartbeats 2000000
namespace LW
open PySem PySem.Spec PyProof.Rows L2 PD
/-- what is kept and what is still to come stand in order -/
def Run (R : List Int → List Int → Prop) (kept xs : List (List Int)) : Prop := kept.Pairwise R ∧ xs.Pairwise R ∧ ∀ a ∈ kept, ∀ b ∈ xs, R a b
theorem Run.keep {R : List Int → List Int → Prop} {x : List Int} {kept xs : List (List Int)} (h : Run R kept (x :: xs)) : Run R (kept ++ [x]) xs := by
  obtain ⟨h1, h2, h3⟩ := h
  obtain ⟨h4, h5⟩ := List.pairwise_cons.mp h2
  refine ⟨List.pairwise_append.mpr ⟨h1, List.pairwise_singleton _ _, fun a ha b hb => ?_⟩, h5, fun a ha b hb => ?_⟩
  · rw [List.mem_singleton.mp hb]
    exact h3 a ha x List.mem_cons_self
  · rcases List.mem_append.mp ha with z | z
    · exact h3 a z b (List.mem_cons_of_mem _ hb)
    · rw [List.mem_singleton.mp z]
      exact h4 b hb
theorem Run.skip {R : List Int → List Int → Prop} {x : List Int} {kept xs : List (List Int)} (h : Run R kept (x :: xs)) : Run R kept xs := ⟨h.1, (List.pairwise_cons.mp h.2.1).2, fun a ha b hb => h.2.2 a ha b (List.mem_cons_of_mem _ hb)⟩
theorem Run.start {R : List Int → List Int → Prop} {xs : List (List Int)} (h : xs.Pairwise R) : Run R [] xs := ⟨.nil, h, fun a ha => by cases ha⟩
theorem v_parts2 (n : Int) (h0 : 0 ≤ n) (h1 : n ≤ 12) : ∃ rows : List (List Int), m_law_parts_of [.int n] = .ok (lt rows) ∧ (∀ r, r ∈ rows ↔ Asc n r) ∧ rows.length = 2 ^ n.toNat ∧ Asd rows := by
  show ∃ rows : List (List Int), endR (g_law_parts_of [some (.d (.int n)), none, none, none]) = _ ∧ _
  have key := forGo_inv (i := 2) (g := b_law_parts_of_1) (enc := PyData.int) (fun xs ρ => ∃ (k : Int) (rows : List (List Int)) (o2 : Option Sl),
    xs = rangeI k n ∧ 0 ≤ k ∧ k ≤ n ∧ ρ = [some (.d (.int n)), some (.d (lt rows)), o2, none] ∧ (∀ r, r ∈ rows ↔ Asc k r) ∧ rows.length = 2 ^ k.toNat ∧ rows.Nodup) (by
    rintro x xs ρ ⟨k, rows, o2, hx, hk, hkn, rfl, hr, hz, hd⟩
    obtain ⟨hk1, rfl, rfl⟩ := rangeI_inv hx
    have hp : 2 ^ x.toNat ≤ 2 ^ 12 := Nat.pow_le_pow_right (by decide) (by omega)
    have e1 : lcR (fun _ => R.ok true) (fun r : List Int => oAdd (tu r) (tu [x])) rows = .ok (rows.map fun r => tu (r ++ [x])) := lcR_mem fun r hm => oAdd_tu (by have := ((hr r).mp hm).len; simp; omega)
    have e2 : oAdd (lt rows) (lt (rows.map fun r => r ++ [x])) = .ok (lt (rows ++ rows.map fun r => r ++ [x])) := oAdd_lt (by rw [List.length_map, hz]; omega)
    refine ⟨[some (.d (.int n)), some (.d (lt (rows ++ rows.map fun r => r ++ [x]))), some (.d (.int x)), none], ?_, x + 1, _, _, rfl, by omega, by omega, rfl, fun r => ?_, ?_, ?_⟩
    · simp [b_law_parts_of_1, e1, e2]
    · rw [List.mem_append, List.mem_map, asc_succ hk, hr r]
      constructor
      · rintro (h | ⟨a, ha, rfl⟩)
        · exact .inl h
        · exact .inr ⟨a, (hr a).mp ha, rfl⟩
      · rintro (h | ⟨a, ha, rfl⟩)
        · exact .inl h
        · exact .inr ⟨a, (hr a).mpr ha, rfl⟩
    · rw [List.length_append, List.length_map, hz, show (x + 1).toNat = x.toNat + 1 by omega, Nat.pow_succ]; omega
    · rw [List.nodup_append]
      refine ⟨hd, List.pairwise_map.mpr (hd.imp fun {a b} ne e => ne (List.append_cancel_right e)), fun a ha b hb e => ?_⟩
      obtain ⟨c, _, rfl⟩ := List.mem_map.mp hb
      have := ((hr a).mp ha).2 x (by rw [e]; simp)
      omega)
  have hi : ∀ r : List Int, r ∈ [[]] ↔ Asc 0 r := fun r => by
    constructor
    · intro h
      rw [List.mem_singleton.mp h]; exact Asc.nil _
    · intro h
      have := h.len
      have : r.length = 0 := by simpa using this
      rw [List.length_eq_zero_iff.mp this]; simp
  obtain ⟨ρ', e, k, rows, o2, hx, hk, hkn, rfl, hr, hz, hd⟩ := key (rangeI 0 n) [some (.d (.int n)), some (.d (lt [[]])), none, none] ⟨0, [[]], none, rfl, by omega, h0, rfl, hi, rfl, by simp⟩
  · have ek : k = n := by
      by_cases h : k < n
      · rw [rangeI_cons h] at hx; cases hx
      · omega
    subst ek
    have hp : 2 ^ k.toNat ≤ 2 ^ 12 := Nat.pow_le_pow_right (by decide) (by omega)
    refine ⟨sortT rows, ?_, fun r => mem_sortT.trans (hr r), ?_, asd_sortT hd⟩
    · simp [g_law_parts_of, rngA1_ok (show k ≤ 100000 by omega) (show -1000 ≤ k by omega), e]
    · rw [(sortT_perm rows).length_eq, hz]
theorem v_antichain2 (rows : List (List Int)) (hz : rows.length ≤ 5000) : ∃ ks : List (List Int), m_law_antichain [lt rows] = .ok (tt ks) ∧ (∀ x, x ∈ ks ↔ x ∈ rows ∧ Top rows x) ∧ Asd ks ∧ ks.length ≤ rows.length := by
  show ∃ ks : List (List Int), endR (g_law_antichain [some (.d (lt rows)), none, none, none]) = _ ∧ _
  have key := forGo_inv (i := 2) (g := b_law_antichain_1) (enc := tu) (fun xs ρ => ∃ (kept : List (List Int)) (o2 : Option Sl),
    ρ = [some (.d (lt rows)), some (.own (kept.map tu)), o2, none] ∧ (∀ x ∈ xs, x ∈ rows) ∧ kept.length + xs.length ≤ rows.length ∧ (∀ x ∈ kept, x ∈ rows ∧ Top rows x) ∧ (∀ x ∈ rows, Top rows x → x ∈ kept ∨ x ∈ xs) ∧ Run (fun a b => leT a b = true) kept xs ∧ kept.Nodup) (by
    rintro x xs ρ ⟨kept, o2, rfl, hx, hl, h1, h2, hR, hN⟩
    have hl' : kept.length + (xs.length + 1) ≤ rows.length := by simpa using hl
    have hs : kept.length < sizeLine := line_lt (by omega)
    by_cases hb : x ∉ kept ∧ Top rows x
    · refine ⟨[some (.d (lt rows)), some (.own ((kept ++ [x]).map tu)), some (.d (tu x)), none], ?_, kept ++ [x], _, rfl, fun y hy => hx y (List.mem_cons_of_mem _ hy), by simp; omega, fun y hy => ?_, fun y hy ht => ?_, hR.keep, List.nodup_append.mpr ⟨hN, by simp, fun a ha b hb2 e => hb.1 (by rw [← List.mem_singleton.mp hb2, ← e]; exact ha)⟩⟩
      · obtain ⟨hb1, hb2⟩ := hb
        simp [b_law_antichain_1, v_within, hb1, hs]
        exact top_iff.mp hb2
      · rcases List.mem_append.mp hy with hy | hy
        · exact h1 y hy
        · rw [List.mem_singleton.mp hy]; exact ⟨hx x List.mem_cons_self, hb.2⟩
      · rcases h2 y hy ht with h | h
        · exact .inl (List.mem_append_left _ h)
        · rcases List.mem_cons.mp h with rfl | h
          · exact .inl (by simp)
          · exact .inr h
    · refine ⟨[some (.d (lt rows)), some (.own (kept.map tu)), some (.d (tu x)), none], ?_, kept, _, rfl, fun y hy => hx y (List.mem_cons_of_mem _ hy), by omega, h1, fun y hy ht => ?_, hR.skip, hN⟩
      · by_cases hm : x ∈ kept
        · simp [b_law_antichain_1, v_within, hm]
        · have hn : ¬ Top rows x := fun h => hb ⟨hm, h⟩
          simp [b_law_antichain_1, v_within, hm]
          exact fun h => absurd (top_iff.mpr h) hn
      · rcases h2 y hy ht with h | h
        · exact .inl h
        · rcases List.mem_cons.mp h with rfl | h
          · by_cases hm : y ∈ kept
            · exact .inl hm
            · exact absurd ⟨hm, ht⟩ hb
          · exact .inr h)
  obtain ⟨ρ', e, kept, o2, rfl, _, hl, h1, h2, hR, hN⟩ := key (sortT rows) [some (.d (lt rows)), some (.own []), none, none] ⟨[], none, rfl, fun x hx => mem_sortT.mp hx, by rw [(sortT_perm rows).length_eq]; simp, by simp, fun x hx _ => .inr (mem_sortT.mpr hx), Run.start (sortT_le rows), by simp⟩
  refine ⟨kept, ?_, fun x => ⟨h1 x, fun ⟨a, b⟩ => (h2 x a b).elim (fun h => h) (fun h => by simp at h)⟩, asd_of hR.1 hN, by simpa using hl⟩
  simp [g_law_antichain, e]
end LW
set_option Elab.async false
set_option maxRecDepth 100000
set_option linter.all false
set_option maxHeartbeats 2000000
namespace LW
open PySem PySem.Spec PyProof.Rows L2 PD
theorem longest : ∀ {rows : List (List Int)}, rows ≠ [] → ∃ x ∈ rows, ∀ o ∈ rows, o.length ≤ x.length
  | [], h => absurd rfl h
  | [r], _ => ⟨r, by simp, fun o ho => by rw [List.mem_singleton.mp ho]; exact Nat.le_refl _⟩
  | r :: s :: t, _ => by
    obtain ⟨x, h1, h2⟩ := longest (rows := s :: t) (by simp)
    by_cases e : r.length ≤ x.length
    · exact ⟨x, List.mem_cons_of_mem _ h1, fun o ho => (List.mem_cons.mp ho).elim (fun z => by rw [z]; exact e) (h2 o)⟩
    · exact ⟨r, List.mem_cons_self, fun o ho => (List.mem_cons.mp ho).elim (fun z => by rw [z]; exact Nat.le_refl _) fun z => by have := h2 o z; omega⟩
theorem top_some {n : Int} {rows : List (List Int)} (hr : ∀ r ∈ rows, Asc n r) (h : rows ≠ []) : ∃ x ∈ rows, Top rows x := by
  obtain ⟨x, h1, h2⟩ := longest h
  refine ⟨x, h1, fun o ho e hall => e ?_⟩
  have s := asc_sub (hr x h1).1 (hr o ho).1 hall
  exact s.eq_of_length (Nat.le_antisymm s.length_le (h2 o ho))
end LW
set_option Elab.async false
set_option maxRecDepth 100000
set_option linter.all false
set_option maxHeartbeats 4000000
set_option Elab.async false
set_option maxRecDepth 100000
set_option linter.all false
set_option maxHeartbeats 2000000
namespace LW
open PySem PySem.Spec PyProof.Rows L2 PD
def Road (p : Int) (r : List Int) : Prop := ∃ a b : Int, r = [a, b] ∧ (0 ≤ a ∧ a < p) ∧ (0 ≤ b ∧ b < p)
theorem nodup_sub_len {α : Type} [DecidableEq α] : ∀ {l k : List α}, l.Nodup → (∀ x ∈ l, x ∈ k) → l.length ≤ k.length
  | [], k, _, _ => Nat.zero_le _
  | a :: l, k, nd, h => by
    obtain ⟨n1, n2⟩ := List.nodup_cons.mp nd
    have ha := h a List.mem_cons_self
    have ih := nodup_sub_len (k := k.erase a) n2 fun x hx => (List.mem_erase_of_ne (fun e => n1 (by rw [← e]; exact hx))).mpr (h x (List.mem_cons_of_mem _ hx))
    rw [List.length_erase_of_mem ha] at ih
    have := List.length_pos_of_mem ha
    rw [List.length_cons]; omega
/-- one more road: what had the first end's label gets the second end's -/
def joinL (lab : List Int) (r : List Int) : List Int := lab.map fun x => if x = ixv lab (ixv r 0) then ixv lab (ixv r 1) else x
def labs (roads : List (List Int)) (p : Int) (row : List Int) : List Int := row.foldl (fun lab t => joinL lab (ixr roads t)) (rangeI 0 p)
structure Lab (p : Int) (lab : List Int) : Prop where
  len : (lab.length : Int) = p
  bnd : ∀ v ∈ lab, 0 ≤ v ∧ v < p
def nlab (p : Int) (lab : List Int) : Nat := ((rangeI 0 p).filter fun v => decide (v ∈ lab)).length
theorem ixv_map {lab : List Int} {f : Int → Int} {i : Int} (h0 : 0 ≤ i) (h1 : i < (lab.length : Int)) : ixv (lab.map f) i = f (ixv lab i) := by
  have hl : i.toNat < lab.length := by omega
  unfold ixv
  rw [List.getElem?_map, List.getElem?_eq_getElem hl]
  rfl
theorem ixv_range {p i : Int} (h0 : 0 ≤ i) (h1 : i < p) : ixv (rangeI 0 p) i = i := by
  unfold ixv rangeI
  rw [List.getElem?_map, List.getElem?_range (by omega)]
  show 0 + ((i.toNat : Nat) : Int) = i
  omega
theorem mem_ixv {l : List Int} {v : Int} (h : v ∈ l) : ∃ i, 0 ≤ i ∧ i < (l.length : Int) ∧ ixv l i = v := by
  obtain ⟨j, hj, e⟩ := List.getElem_of_mem h
  refine ⟨j, by omega, by omega, ?_⟩
  unfold ixv
  rw [show ((j : Int)).toNat = j by omega, List.getElem?_eq_getElem hj, e]
  rfl
theorem Lab.start {p : Int} (h : 0 ≤ p) : Lab p (rangeI 0 p) := ⟨by rw [rangeI_len]; omega, fun v hv => mem_rangeI.mp hv⟩
theorem Road.at {p : Int} {r : List Int} (h : Road p r) : (0 ≤ ixv r 0 ∧ ixv r 0 < p) ∧ (0 ≤ ixv r 1 ∧ ixv r 1 < p) := by
  obtain ⟨a, b, rfl, ha, hb⟩ := h
  exact ⟨ha, hb⟩
theorem Lab.join {p : Int} {lab r : List Int} (h : Lab p lab) (hr : Road p r) : Lab p (joinL lab r) := by
  refine ⟨by unfold joinL; rw [List.length_map]; exact h.len, fun v hv => ?_⟩
  obtain ⟨x, hx, rfl⟩ := List.mem_map.mp hv
  have hb := hr.at
  split
  · exact h.bnd _ (ixv_mem hb.2.1 (by rw [h.len]; exact hb.2.2))
  · exact h.bnd _ hx
theorem join_at {p : Int} {lab r : List Int} (h : Lab p lab) {i : Int} (h0 : 0 ≤ i) (h1 : i < p) : ixv (joinL lab r) i = if ixv lab i = ixv lab (ixv r 0) then ixv lab (ixv r 1) else ixv lab i := ixv_map h0 (by rw [h.len]; exact h1)
theorem join_ends {p : Int} {lab r : List Int} (h : Lab p lab) (hr : Road p r) : ixv (joinL lab r) (ixv r 0) = ixv (joinL lab r) (ixv r 1) := by
  obtain ⟨⟨a0, a1⟩, b0, b1⟩ := hr.at
  rw [join_at h a0 a1, join_at h b0 b1, if_pos rfl]
  split <;> rfl
theorem join_keep {p : Int} {lab r : List Int} (h : Lab p lab) {i j : Int} (h0 : 0 ≤ i) (h1 : i < p) (j0 : 0 ≤ j) (j1 : j < p) (e : ixv lab i = ixv lab j) : ixv (joinL lab r) i = ixv (joinL lab r) j := by
  rw [join_at h h0 h1, join_at h j0 j1, e]
/-- g tells two points apart that the labels tell apart -/
def Fine (p : Int) (lab g : List Int) : Prop := ∀ i j, 0 ≤ i → i < p → 0 ≤ j → j < p → ixv lab i = ixv lab j → ixv g i = ixv g j
theorem Fine.join {p : Int} {lab r g : List Int} (h : Lab p lab) (hr : Road p r) (f : Fine p lab g) (e : ixv g (ixv r 0) = ixv g (ixv r 1)) : Fine p (joinL lab r) g := by
  obtain ⟨⟨a0, a1⟩, b0, b1⟩ := hr.at
  intro i j i0 i1 j0 j1 q
  rw [join_at h i0 i1, join_at h j0 j1] at q
  by_cases hi : ixv lab i = ixv lab (ixv r 0)
  · rw [if_pos hi] at q
    by_cases hj : ixv lab j = ixv lab (ixv r 0)
    · exact f i j i0 i1 j0 j1 (hi.trans hj.symm)
    · rw [if_neg hj] at q
      exact (f i _ i0 i1 a0 a1 hi).trans (e.trans (f _ j b0 b1 j0 j1 q))
  · rw [if_neg hi] at q
    by_cases hj : ixv lab j = ixv lab (ixv r 0)
    · rw [if_pos hj] at q
      exact (f i _ i0 i1 b0 b1 q).trans (e.symm.trans (f _ j a0 a1 j0 j1 hj.symm))
    · rw [if_neg hj] at q
      exact f i j i0 i1 j0 j1 q
section
variable {roads : List (List Int)} {p : Int}
def RoadsOk (roads : List (List Int)) (p : Int) (row : List Int) : Prop := ∀ t ∈ row, Road p (ixr roads t)
theorem lab_from (hp : 0 ≤ p) : ∀ {row lab : List Int}, Lab p lab → RoadsOk roads p row → Lab p (row.foldl (fun lab t => joinL lab (ixr roads t)) lab)
  | [], lab, h, _ => h
  | t :: row, lab, h, hr => lab_from hp (row := row) (lab := joinL lab (ixr roads t)) (h.join (hr t List.mem_cons_self)) fun u hu => hr u (List.mem_cons_of_mem _ hu)
theorem fine_from {g : List Int} : ∀ {row lab : List Int}, Lab p lab → RoadsOk roads p row → Fine p lab g → (∀ t ∈ row, ixv g (ixv (ixr roads t) 0) = ixv g (ixv (ixr roads t) 1)) → Fine p (row.foldl (fun lab t => joinL lab (ixr roads t)) lab) g
  | [], lab, _, _, f, _ => f
  | t :: row, lab, h, hr, f, e => fine_from (row := row) (lab := joinL lab (ixr roads t)) (h.join (hr t List.mem_cons_self)) (fun u hu => hr u (List.mem_cons_of_mem _ hu)) (f.join h (hr t List.mem_cons_self) (e t List.mem_cons_self)) fun u hu => e u (List.mem_cons_of_mem _ hu)
theorem keep_from {i j : Int} (i0 : 0 ≤ i) (i1 : i < p) (j0 : 0 ≤ j) (j1 : j < p) : ∀ {row lab : List Int}, Lab p lab → RoadsOk roads p row → ixv lab i = ixv lab j → ixv (row.foldl (fun lab t => joinL lab (ixr roads t)) lab) i = ixv (row.foldl (fun lab t => joinL lab (ixr roads t)) lab) j
  | [], lab, _, _, e => e
  | t :: row, lab, h, hr, e => keep_from i0 i1 j0 j1 (row := row) (lab := joinL lab (ixr roads t)) (h.join (hr t List.mem_cons_self)) (fun u hu => hr u (List.mem_cons_of_mem _ hu)) (join_keep h i0 i1 j0 j1 e)
theorem ends_from : ∀ {row lab : List Int}, Lab p lab → RoadsOk roads p row → ∀ t ∈ row, ixv (row.foldl (fun lab t => joinL lab (ixr roads t)) lab) (ixv (ixr roads t) 0) = ixv (row.foldl (fun lab t => joinL lab (ixr roads t)) lab) (ixv (ixr roads t) 1)
  | [], lab, _, _, t, ht => by cases ht
  | s :: row, lab, h, hr, t, ht => by
    have hs := hr s List.mem_cons_self
    rcases List.mem_cons.mp ht with rfl | ht
    · obtain ⟨⟨a0, a1⟩, b0, b1⟩ := hs.at
      exact keep_from a0 a1 b0 b1 (row := row) (lab := joinL lab (ixr roads t)) (h.join hs) (fun u hu => hr u (List.mem_cons_of_mem _ hu)) (join_ends h hs)
    · exact ends_from (row := row) (lab := joinL lab (ixr roads s)) (h.join hs) (fun u hu => hr u (List.mem_cons_of_mem _ hu)) t ht
theorem labs_lab (hp : 0 ≤ p) {row : List Int} (hr : RoadsOk roads p row) : Lab p (labs roads p row) := lab_from hp (Lab.start hp) hr
theorem labs_ends (hp : 0 ≤ p) {row : List Int} (hr : RoadsOk roads p row) {t : Int} (ht : t ∈ row) : ixv (labs roads p row) (ixv (ixr roads t) 0) = ixv (labs roads p row) (ixv (ixr roads t) 1) := ends_from (Lab.start hp) hr t ht
theorem labs_fine (hp : 0 ≤ p) {row g : List Int} (hr : RoadsOk roads p row) (e : ∀ t ∈ row, ixv g (ixv (ixr roads t) 0) = ixv g (ixv (ixr roads t) 1)) : Fine p (labs roads p row) g :=
  fine_from (Lab.start hp) hr (fun i j i0 i1 j0 j1 q => by rw [ixv_range i0 i1, ixv_range j0 j1] at q; rw [q]) e
theorem nlab_le {lab g : List Int} (hg : Lab p g) (hl : Lab p lab) (f : Fine p lab g) : nlab p g ≤ nlab p lab := by
  -- each label of g at one of its points, and the other label there
  have pick : ∀ v : Int, ∃ i : Int, v ∈ g → 0 ≤ i ∧ i < p ∧ ixv g i = v := fun v => by
    by_cases h : v ∈ g
    · obtain ⟨i, a, b, c⟩ := mem_ixv h
      exact ⟨i, fun _ => ⟨a, by rw [← hg.len]; exact b, c⟩⟩
    · exact ⟨0, fun z => absurd z h⟩
  let at_ : Int → Int := fun v => Classical.choose (pick v)
  have hat : ∀ v, v ∈ g → 0 ≤ at_ v ∧ at_ v < p ∧ ixv g (at_ v) = v := fun v => Classical.choose_spec (pick v)
  have key := nodup_sub_len (l := ((rangeI 0 p).filter fun v => decide (v ∈ g)).map fun v => ixv lab (at_ v)) (k := (rangeI 0 p).filter fun v => decide (v ∈ lab)) ?_ ?_
  · rw [List.length_map] at key
    exact key
  · refine List.pairwise_map.mpr ?_
    have nd : ((rangeI 0 p).filter fun v => decide (v ∈ g)).Pairwise (· ≠ ·) := ((rangeI_asc 0 p).imp fun {a b} z e => by omega).filter _
    refine List.Pairwise.imp_of_mem (fun {a b} ha hb ne e => ne ?_) nd
    have ga := hat a (by simpa using (List.mem_filter.mp ha).2)
    have gb := hat b (by simpa using (List.mem_filter.mp hb).2)
    have := f _ _ ga.1 ga.2.1 gb.1 gb.2.1 e
    rw [ga.2.2, gb.2.2] at this
    exact this
  · intro x hx
    obtain ⟨v, hv, rfl⟩ := List.mem_map.mp hx
    have gv := hat v (by simpa using (List.mem_filter.mp hv).2)
    have m : ixv lab (at_ v) ∈ lab := ixv_mem gv.1 (by rw [hl.len]; exact gv.2.1)
    exact List.mem_filter.mpr ⟨mem_rangeI.mpr (hl.bnd _ m), by simpa using m⟩
theorem nlab_join {lab r : List Int} (h : Lab p lab) (hr : Road p r) : nlab p lab = nlab p (joinL lab r) + if ixv lab (ixv r 0) = ixv lab (ixv r 1) then 0 else 1 := by
  obtain ⟨⟨a0, a1⟩, b0, b1⟩ := hr.at
  have mu : ixv lab (ixv r 0) ∈ lab := ixv_mem a0 (by rw [h.len]; exact a1)
  have mv : ixv lab (ixv r 1) ∈ lab := ixv_mem b0 (by rw [h.len]; exact b1)
  have mem : ∀ x, x ∈ joinL lab r ↔ x = ixv lab (ixv r 1) ∨ (x ∈ lab ∧ ¬ x = ixv lab (ixv r 0)) := fun x => by
    unfold joinL
    rw [List.mem_map]
    constructor
    · rintro ⟨y, hy, rfl⟩
      by_cases e : y = ixv lab (ixv r 0)
      · rw [if_pos e]; exact .inl rfl
      · rw [if_neg e]; exact .inr ⟨hy, e⟩
    · rintro (rfl | ⟨hx, ne⟩)
      · exact ⟨_, mu, if_pos rfl⟩
      · exact ⟨x, hx, if_neg ne⟩
  generalize ixv lab (ixv r 0) = u at mu mem
  generalize ixv lab (ixv r 1) = v at mv mem
  unfold nlab
  by_cases e : u = v
  · rw [if_pos e]
    subst e
    have : (fun x => decide (x ∈ lab)) = fun x => decide (x ∈ joinL lab r) := by
      funext x
      refine decide_eq_decide.mpr ?_
      rw [mem]
      constructor
      · intro hx
        by_cases q : x = u
        · exact .inl q
        · exact .inr ⟨hx, q⟩
      · rintro (rfl | ⟨hx, _⟩)
        · exact mv
        · exact hx
    rw [this]; rfl
  · rw [if_neg e]
    -- u is lost
    have hu := h.bnd u mu
    have cnt : ∀ R : List Int, R.Nodup → (R.filter fun x => decide (x ∈ lab)).length = (R.filter fun x => decide (x ∈ joinL lab r)).length + if u ∈ R then 1 else 0 := by
      intro R
      induction R with
      | nil => intro _; rfl
      | cons a R ih =>
        intro nd
        obtain ⟨n1, n2⟩ := List.nodup_cons.mp nd
        have ih := ih n2
        by_cases ha : a = u
        · subst ha
          have c1 : a ∈ lab := mu
          have c2 : ¬ a ∈ joinL lab r := fun z => (mem a).mp z |>.elim e fun q => q.2 rfl
          rw [if_neg n1] at ih
          rw [List.filter_cons_of_pos (by simpa using c1), List.filter_cons_of_neg (by simpa using c2), List.length_cons, ih, if_pos List.mem_cons_self]
        · have c : (a ∈ lab) ↔ a ∈ joinL lab r := by
            rw [mem]
            exact ⟨fun z => .inr ⟨z, ha⟩, fun z => z.elim (fun q => by rw [q]; exact mv) fun q => q.1⟩
          have hm : (u ∈ a :: R) ↔ u ∈ R := ⟨fun z => (List.mem_cons.mp z).resolve_left fun q => ha q.symm, List.mem_cons_of_mem _⟩
          simp only [hm]
          by_cases ca : a ∈ lab
          · rw [List.filter_cons_of_pos (by simpa using ca), List.filter_cons_of_pos (by simpa using c.mp ca), List.length_cons, List.length_cons, ih]; omega
          · rw [List.filter_cons_of_neg (by simpa using ca), List.filter_cons_of_neg (by simpa using fun z => ca (c.mpr z)), ih]
    have := cnt (rangeI 0 p) ((rangeI_asc 0 p).imp fun {a b} z e => by omega)
    rw [if_pos (mem_rangeI.mpr hu)] at this
    exact this
/-- no road of the row joins what is joined already -/
def forB (roads : List (List Int)) : List Int → List Int → Bool
  | [], _ => true
  | t :: row, lab => !decide (ixv lab (ixv (ixr roads t) 0) = ixv lab (ixv (ixr roads t) 1)) && forB roads row (joinL lab (ixr roads t))
theorem forB_count : ∀ {row lab : List Int}, Lab p lab → RoadsOk roads p row → nlab p lab ≤ nlab p (row.foldl (fun lab t => joinL lab (ixr roads t)) lab) + row.length ∧ (forB roads row lab = true ↔ nlab p lab = nlab p (row.foldl (fun lab t => joinL lab (ixr roads t)) lab) + row.length)
  | [], lab, _, _ => ⟨Nat.le_refl _, by simp [forB]⟩
  | t :: row, lab, h, hr => by
    have ht := hr t List.mem_cons_self
    obtain ⟨i1, i2⟩ := forB_count (row := row) (lab := joinL lab (ixr roads t)) (h.join ht) fun u hu => hr u (List.mem_cons_of_mem _ hu)
    have e := nlab_join h ht
    unfold forB
    rw [List.foldl_cons, List.length_cons]
    generalize nlab p (row.foldl (fun lab t => joinL lab (ixr roads t)) (joinL lab (ixr roads t))) = N at i1 i2 ⊢
    by_cases q : ixv lab (ixv (ixr roads t) 0) = ixv lab (ixv (ixr roads t) 1)
    · rw [if_pos q] at e
      refine ⟨by omega, ?_⟩
      rw [decide_eq_true q]
      simp
      omega
    · rw [if_neg q] at e
      refine ⟨by omega, ?_⟩
      rw [decide_eq_false q]
      simp
      rw [i2]
      omega
def forest (roads : List (List Int)) (p : Int) (row : List Int) : Bool := forB roads row (rangeI 0 p)
theorem nlab_start (hp : 0 ≤ p) : nlab p (rangeI 0 p) = p.toNat := by
  unfold nlab
  rw [List.filter_eq_self.mpr (fun v hv => by simpa using hv), rangeI_len]
  simp
theorem forest_iff (hp : 0 ≤ p) {row : List Int} (hr : RoadsOk roads p row) : forest roads p row = true ↔ nlab p (labs roads p row) + row.length = p.toNat := by
  have := (forB_count (Lab.start hp) hr).2
  rw [nlab_start hp] at this
  exact this.trans eq_comm
theorem forest_le (hp : 0 ≤ p) {row : List Int} (hr : RoadsOk roads p row) : p.toNat ≤ nlab p (labs roads p row) + row.length := by
  have := (forB_count (Lab.start hp) hr).1
  rwa [nlab_start hp] at this
/-- the labels of a set of roads, whatever its order -/
theorem nlab_same (hp : 0 ≤ p) {row row' : List Int} (hr : RoadsOk roads p row) (hr' : RoadsOk roads p row') (h : ∀ t, t ∈ row ↔ t ∈ row') : nlab p (labs roads p row) = nlab p (labs roads p row') :=
  Nat.le_antisymm (nlab_le (labs_lab hp hr) (labs_lab hp hr') (labs_fine hp hr' fun t ht => labs_ends hp hr ((h t).mpr ht))) (nlab_le (labs_lab hp hr') (labs_lab hp hr) (labs_fine hp hr fun t ht => labs_ends hp hr' ((h t).mp ht)))
/-- of a greater forest some road goes between what the smaller one leaves apart -/
theorem forest_more (hp : 0 ≤ p) {l o : List Int} (hl : RoadsOk roads p l) (ho : RoadsOk roads p o) (fl : forest roads p l = true) (fo : forest roads p o = true) (h : l.length < o.length) : ∃ t ∈ o, ¬ ixv (labs roads p l) (ixv (ixr roads t) 0) = ixv (labs roads p l) (ixv (ixr roads t) 1) := by
  refine Classical.byContradiction fun z => ?_
  have e : ∀ t ∈ o, ixv (labs roads p l) (ixv (ixr roads t) 0) = ixv (labs roads p l) (ixv (ixr roads t) 1) := fun t ht => Classical.byContradiction fun q => z ⟨t, ht, q⟩
  have := nlab_le (labs_lab hp hl) (labs_lab hp ho) (labs_fine hp ho e)
  have a := (forest_iff hp hl).mp fl
  have b := (forest_iff hp ho).mp fo
  omega
theorem labs_snoc {row : List Int} {t : Int} : labs roads p (row ++ [t]) = joinL (labs roads p row) (ixr roads t) := by
  unfold labs
  rw [List.foldl_append]
  rfl
theorem forest_snoc (hp : 0 ≤ p) {row : List Int} {t : Int} (hr : RoadsOk roads p row) (ht : Road p (ixr roads t)) : forest roads p (row ++ [t]) = true ↔ forest roads p row = true ∧ ¬ ixv (labs roads p row) (ixv (ixr roads t) 0) = ixv (labs roads p row) (ixv (ixr roads t) 1) := by
  have hr2 : RoadsOk roads p (row ++ [t]) := fun u hu => (List.mem_append.mp hu).elim (hr u) fun z => by rw [List.mem_singleton.mp z]; exact ht
  rw [forest_iff hp hr2, forest_iff hp hr, labs_snoc, List.length_append, List.length_singleton]
  have e := nlab_join (labs_lab hp hr) ht
  have le := forest_le hp hr
  have le2 := forest_le hp hr2
  rw [labs_snoc, List.length_append, List.length_singleton] at le2
  by_cases q : ixv (labs roads p row) (ixv (ixr roads t) 0) = ixv (labs roads p row) (ixv (ixr roads t) 1)
  · rw [if_pos q] at e
    constructor
    · intro z; omega
    · exact fun z => absurd q z.2
  · rw [if_neg q] at e
    constructor
    · exact fun z => ⟨by omega, q⟩
    · intro z; omega
theorem forest_perm (hp : 0 ≤ p) {row row' : List Int} (hr : RoadsOk roads p row) (q : row.Perm row') : forest roads p row = forest roads p row' := by
  have hr' : RoadsOk roads p row' := fun t ht => hr t (q.mem_iff.mpr ht)
  rw [Bool.eq_iff_iff, forest_iff hp hr, forest_iff hp hr', nlab_same hp hr hr' fun t => q.mem_iff, q.length_eq]
/-- without a road a forest stays one -/
theorem forest_less (hp : 0 ≤ p) {row : List Int} {x : Int} (hr : RoadsOk roads p row) (nd : row.Nodup) (hx : x ∈ row) (f : forest roads p row = true) : forest roads p (row.filter fun y => !(y == x)) = true := by
  have q : row.Perm ((row.filter fun y => !(y == x)) ++ [x]) := by
    refine (List.perm_ext_iff_of_nodup nd ?_).mpr fun y => ?_
    · rw [List.nodup_append]
      refine ⟨nd.filter _, by simp, fun a ha b hb e => ?_⟩
      rw [List.mem_singleton.mp hb] at e
      have := (List.mem_filter.mp ha).2
      simp [e] at this
    · rw [List.mem_append, List.mem_filter, List.mem_singleton]
      constructor
      · intro hy
        by_cases e : y = x
        · exact .inr e
        · exact .inl ⟨hy, by simpa using e⟩
      · rintro (z | z)
        · exact z.1
        · rw [z]; exact hx
  rw [forest_perm hp hr q] at f
  have hr2 : RoadsOk roads p (row.filter fun y => !(y == x)) := fun t ht => hr t (List.mem_filter.mp ht).1
  exact ((forest_snoc hp hr2 (hr x hx)).mp f).1
/-- the exchange of roads between two forests of one size -/
theorem forest_exc (hp : 0 ≤ p) {n : Int} {l o : List Int} {x : Int} (la : Asc n l) (oa : Asc n o) (hl : RoadsOk roads p l) (ho : RoadsOk roads p o) (fl : forest roads p l = true) (fo : forest roads p o = true) (e : l.length = o.length) (hx : x ∈ l) (nx : ¬ x ∈ o) :
    ∃ t ∈ o, ¬ t ∈ l ∧ forest roads p (exch l x t) = true := by
  have nd := la.nodup
  have hr2 : RoadsOk roads p (l.filter fun y => !(y == x)) := fun t ht => hl t (List.mem_filter.mp ht).1
  have f2 := forest_less hp hl nd hx fl
  have lt : (l.filter fun y => !(y == x)).length < o.length := by
    have s : (l.filter fun y => !(y == x)).length < l.length := by
      refine Nat.lt_of_le_of_ne (List.length_filter_le _ _) fun z => ?_
      have := List.filter_sublist.eq_of_length z
      rw [List.filter_eq_self] at this
      have := this x hx
      simp at this
    omega
  obtain ⟨t, ht, ne⟩ := forest_more hp hr2 ho f2 fo lt
  have ntl : ¬ t ∈ l := fun z => by
    have tx : ¬ t = x := fun q => nx (by rw [← q]; exact ht)
    exact ne (labs_ends hp hr2 (List.mem_filter.mpr ⟨z, by simpa using tx⟩))
  refine ⟨t, ht, ntl, ?_⟩
  have q : (exch l x t).Perm ((l.filter fun y => !(y == x)) ++ [t]) := (sortD_ints _).2
  have hr3 : RoadsOk roads p ((l.filter fun y => !(y == x)) ++ [t]) := fun u hu => (List.mem_append.mp hu).elim (hr2 u) fun z => by rw [List.mem_singleton.mp z]; exact ho t ht
  rw [← forest_perm hp hr3 q.symm]
  exact (forest_snoc hp hr2 (ho t ht)).mpr ⟨f2, ne⟩
end
end LW
set_option Elab.async false
set_option maxRecDepth 100000
set_option linter.all false
set_option maxHeartbeats 2000000
namespace LW
open PySem PySem.Spec PyProof.Rows L2 PD
theorem v_rest_of (row : List Int) (n : Int) (h0 : 0 ≤ n) (h1 : n ≤ 1000) : m_law_rest_of [tu row, .int n] = .ok (tu ((rangeI 0 n).filter fun x => !decide (x ∈ row))) := by
  show endR (g_law_rest_of [some (.d (tu row)), some (.d (.int n)), none]) = _
  simp [g_law_rest_of, rngA1_ok (show n ≤ 100000 by omega) (show -1000 ≤ n by omega)]
theorem v_bounded3 (L : List Int) (n : Int) (h0 : 0 ≤ n) (h1 : n ≤ 9) (hL : (L.length : Int) = 3 + n) : ∃ ks : List (List Int), m_law_bounded_lots [li L, .int n] = .ok (tt ks) ∧ Smooth n ks := by
  show ∃ ks : List (List Int), endR (g_law_bounded_lots [some (.d (li L)), some (.d (.int n)), none, none, none, none, none, none, none, none]) = _ ∧ _
  obtain ⟨rows, e2, hr, hz2, hs⟩ := v_parts2 n h0 (by omega)
  have hz : rows.length ≤ 512 := by
    rw [hz2]
    have hp : 2 ^ n.toNat ≤ 2 ^ 9 := Nat.pow_le_pow_right (by decide) (by omega)
    omega
  have e31 := ix_li (L := L) (i := 1) (by decide) (by omega)
  have e32 := ix_li (L := L) (i := 2) (by decide) (by omega)
  generalize hcl : (rangeI 0 n).map (fun k => (ixv L (3 + k)).fmod 3) = cl
  have lcl : (cl.length : Int) = n := by rw [← hcl, List.length_map, rangeI_len]; omega
  generalize hb0 : 1 + (ixv L 2).fmod 2 = B0
  generalize hb1 : 1 + ((ixv L 2).fdiv 2).fmod 2 = B1
  generalize hb2 : ((ixv L 2).fdiv 4).fmod 3 = B2
  have er := rngA1_ok (n := n) (by omega) (by omega)
  have er3 := rngA1_ok (n := 3) (by decide) (by decide)
  let fit : List Int → Bool := fun row => (rangeI 0 3).all fun k => decide (((row.filter fun x => ixv cl x == k).length : Int) ≤ ixv [B0, B1, B2] k)
  have key := forGo_inv (i := 5) (g := b_law_bounded_lots_1) (enc := tu) (fun xs ρ => ∃ (kept : List (List Int)) (o6 : Option Sl), ρ = [some (.d (li L)), some (.d (.int n)), some (.d (li cl)), some (.d (li [B0, B1, B2])), some (.own (kept.map tu)), o6, none, none, none, none] ∧
      (∀ x ∈ xs, Asc n x) ∧ kept.length + xs.length ≤ 512 ∧ (∀ x ∈ kept, Asc n x ∧ fit x = true) ∧ (∀ r, Asc n r → fit r = true → r ∈ kept ∨ r ∈ xs) ∧ Run (fun a b => HT.lexLt a b = true) kept xs) (by
    rintro x xs ρ ⟨kept, o6, rfl, hx, hl, hk, hf, hR⟩
    have hl' : kept.length + (xs.length + 1) ≤ 512 := by simpa using hl
    have hs : kept.length < sizeLine := line_lt (by omega)
    have hxa := hx x List.mem_cons_self
    have et : lcR (fun _ => R.ok true) (fun k : Int => m_law_count [tu x, li cl, .int k] >>= fun a => oIx (li [B0, B1, B2]) (.int k) >>= fun b => oLe a b) (rangeI 0 3) = .ok ((rangeI 0 3).map fun k => PyData.bool (decide (((x.filter fun y => ixv cl y == k).length : Int) ≤ ixv [B0, B1, B2] k))) := lcR_mem fun k hk => by
      obtain ⟨k1, k2⟩ := mem_rangeI.mp hk
      simp [v_count x cl k (fun y hy => by have := hxa.2 y hy; omega), ix_li (L := [B0, B1, B2]) (i := k) k1 (by simpa using k2)]
    by_cases hb : fit x = true
    · refine ⟨[some (.d (li L)), some (.d (.int n)), some (.d (li cl)), some (.d (li [B0, B1, B2])), some (.own ((kept ++ [x]).map tu)), some (.d (tu x)), none, none, none, none], ?_, kept ++ [x], _, rfl, fun y hy => hx y (List.mem_cons_of_mem _ hy), by simp; omega, fun y hy => ?_, fun r ha hr => ?_, hR.keep⟩
      · have hb' : ∀ k ∈ rangeI 0 3, ((x.filter fun y => ixv cl y == k).length : Int) ≤ ixv [B0, B1, B2] k := by simpa [fit] using hb
        simp [b_law_bounded_lots_1, er3, et, hs]
        exact hb'
      · rcases List.mem_append.mp hy with hy | hy
        · exact hk y hy
        · rw [List.mem_singleton.mp hy]; exact ⟨hxa, hb⟩
      · rcases hf r ha hr with h | h
        · exact .inl (List.mem_append_left _ h)
        · rcases List.mem_cons.mp h with rfl | h
          · exact .inl (by simp)
          · exact .inr h
    · refine ⟨[some (.d (li L)), some (.d (.int n)), some (.d (li cl)), some (.d (li [B0, B1, B2])), some (.own (kept.map tu)), some (.d (tu x)), none, none, none, none], ?_, kept, _, rfl, fun y hy => hx y (List.mem_cons_of_mem _ hy), by omega, hk, fun r ha hr => ?_, hR.skip⟩
      rotate_left
      · rcases hf r ha hr with h | h
        · exact .inl h
        · rcases List.mem_cons.mp h with rfl | h
          · exact absurd hr hb
          · exact .inr h
      have hb' : ¬ ∀ k ∈ rangeI 0 3, ((x.filter fun y => ixv cl y == k).length : Int) ≤ ixv [B0, B1, B2] k := fun h => hb (by simpa [fit] using h)
      simp [b_law_bounded_lots_1, er3, et, hs]
      refine Classical.byContradiction fun hc => hb' fun k hk2 => ?_
      exact Classical.byContradiction fun hn => hc ⟨k, hk2, by omega⟩)
  obtain ⟨ρ', e, kept, o6, rfl, _, hl, hk, hf, hR⟩ := key rows [some (.d (li L)), some (.d (.int n)), some (.d (li cl)), some (.d (li [B0, B1, B2])), some (.own []), none, none, none, none, none]
    ⟨[], none, rfl, fun x hx => (hr x).mp hx, by simpa using hz, by simp, fun r ha _ => .inr ((hr r).mpr ha), Run.start hs⟩
  have hB0 : 0 ≤ B0 := by have := fmod_lo (ixv L 2) (b := 2) (by decide); omega
  have hB1 : 0 ≤ B1 := by have := fmod_lo ((ixv L 2).fdiv 2) (b := 2) (by decide); omega
  have hB2 : 0 ≤ B2 := by have := fmod_lo ((ixv L 2).fdiv 4) (b := 3) (by decide); omega
  have fit0 : fit [] = true := by
    show ((rangeI 0 3).all fun k => decide (((([] : List Int).filter fun x => ixv cl x == k).length : Int) ≤ ixv [B0, B1, B2] k)) = true
    rw [List.all_eq_true]
    intro k hk2
    obtain ⟨k1, k2⟩ := mem_rangeI.mp hk2
    have this : ixv [B0, B1, B2] k ∈ [B0, B1, B2] := ixv_mem k1 (by simpa using k2)
    simp only [List.mem_cons, List.not_mem_nil, or_false] at this
    refine decide_eq_true ?_
    show (0 : Int) ≤ _
    rcases this with h | h | h <;> omega
  have hne : kept ≠ [] := fun z => by
    rcases hf [] (Asc.nil n) fit0 with h | h
    · rw [z] at h; cases h
    · cases h
  have hmx := bMax_li (l := kept.map fun r => (r.length : Int)) (by simpa using hne)
  have hmem := maxI_mem (ns := kept.map fun r => (r.length : Int)) (List.length_pos_iff.mpr (by simpa using hne))
  generalize hM : maxI (kept.map fun r => (r.length : Int)) = M at hmx hmem
  have f8a := fmod_lo (ixv L 1) (b := 8) (by decide)
  have f8b := fmod_hi (ixv L 1) (b := 8) (by decide)
  have e8 := ix_tu (L := [2, 1, 2, 3, 1, 2, 0, 3]) (i := (ixv L 1).fmod 8) f8a (by simpa using f8b)
  have m8 : ixv [2, 1, 2, 3, 1, 2, 0, 3] ((ixv L 1).fmod 8) ∈ [2, 1, 2, 3, 1, 2, 0, 3] := ixv_mem f8a (by simpa using f8b)
  generalize ixv [2, 1, 2, 3, 1, 2, 0, 3] ((ixv L 1).fmod 8) = T at e8 m8
  have hT : 0 ≤ T := by
    simp only [List.mem_cons, List.not_mem_nil, or_false] at m8
    omega
  generalize hC : (if T < M then T else M) = C
  obtain ⟨r0, hr0, hr0M⟩ := List.mem_map.mp hmem
  have hC0 : 0 ≤ C ∧ C ≤ r0.length := by
    have hM0 : (r0.length : Int) = M := hr0M
    split at hC <;> omega
  have hfit : ∀ r : List Int, fit r = true ↔ Fit (fun x => ixv cl x) (fun k => ixv [B0, B1, B2] k) r := fun r => by
    show ((rangeI 0 3).all fun k => decide (((r.filter fun x => ixv cl x == k).length : Int) ≤ ixv [B0, B1, B2] k)) = true ↔ _
    rw [List.all_eq_true]
    constructor
    · intro z k k0 k1
      exact of_decide_eq_true (z k (mem_rangeI.mpr ⟨k0, k1⟩))
    · intro z k hk
      exact decide_eq_true (z k (mem_rangeI.mp hk).1 (mem_rangeI.mp hk).2)
  have hcr : ∀ x, 0 ≤ x → x < n → 0 ≤ ixv cl x ∧ ixv cl x < 3 := fun x x0 x1 => by
    have m : ixv cl x ∈ cl := ixv_mem x0 (by omega)
    generalize ixv cl x = u at m ⊢
    rw [← hcl] at m
    obtain ⟨k, _, rfl⟩ := List.mem_map.mp m
    exact ⟨fmod_lo _ (by decide), fmod_hi _ (by decide)⟩
  have mem : ∀ r, r ∈ (kept.filter fun r => (r.length : Int) == C) ↔ Asc n r ∧ fit r = true ∧ (r.length : Int) = C := fun r => by
    rw [List.mem_filter]
    constructor
    · rintro ⟨a, b⟩
      exact ⟨(hk r a).1, (hk r a).2, by simpa using b⟩
    · rintro ⟨a, b, d⟩
      exact ⟨(hf r a b).elim id (fun z => by cases z), by simpa using d⟩
  refine ⟨kept.filter fun r => (r.length : Int) == C, ?_, ⟨fun l hl => ((mem l).mp hl).1, (hR.1 : Asd kept).filter _, fun z => ?_, ?_⟩, fun l hl x hx o ho nx => ?_, fun l hl k hk2 => ?_⟩
  · simp [g_law_bounded_lots, er]
    rw [lcR_mem (g := fun k => PyData.int ((ixv L (3 + k)).fmod 3))]
    · simp [e2, e31, e32, hcl, oMod_int, oDiv_lit, hb0, hb1, hb2, e, hmx, e8, hC]
    · intro k hk3
      obtain ⟨k1, k2⟩ := mem_rangeI.mp hk3
      simp [ix_li (L := L) (i := 3 + k) (by omega) (by omega), oMod_int]
  · obtain ⟨ha0, hf0⟩ := hk r0 hr0
    have : r0.take C.toNat ∈ (kept.filter fun r => (r.length : Int) == C) := (mem _).mpr ⟨asc_take ha0 _, (hfit _).mpr (fit_take ((hfit _).mp hf0) _), by rw [List.length_take]; omega⟩
    rw [z] at this
    cases this
  · have a := List.length_filter_le (fun r : List Int => (r.length : Int) == C) kept
    have : kept.length ≤ 512 := by simpa using hl
    omega
  · obtain ⟨la, lf, ll⟩ := (mem l).mp hl
    obtain ⟨oa, of, ol⟩ := (mem o).mp ho
    obtain ⟨t, t1, t2, t3, t4, t5⟩ := fit_exc hcr la oa ((hfit l).mp lf) ((hfit o).mp of) (by omega) hx nx
    exact ⟨t, t1, t2, (mem _).mpr ⟨t3, (hfit _).mpr t4, by rw [t5]; exact ll⟩⟩
  · have a := ((mem l).mp hl).2.2
    have b := ((mem k).mp hk2).2.2
    omega
theorem tu_2 (a b : Int) : PyData.tuple [.int a, .int b] = tu [a, b] := rfl
theorem oIx_2a (a b : Int) : oIx (tu [a, b]) (.int 0) = .ok (.int a) := rfl
theorem oIx_2b (a b : Int) : oIx (tu [a, b]) (.int 1) = .ok (.int b) := rfl
theorem v_forest3 (row : List Int) (roads : List (List Int)) (p : Int) (hp : 0 ≤ p ∧ p ≤ 12) (hr : ∀ t ∈ row, 0 ≤ t ∧ t < (roads.length : Int) ∧ Road p (ixr roads t)) : m_law_is_forest [tu row, lt roads, .int p] = .ok (.bool (forest roads p row)) := by
  show endR (g_law_is_forest [some (.d (tu row)), some (.d (lt roads)), some (.d (.int p)), none, none, none, none, none]) = _
  have key : ∀ (xs lab : List Int) (o4 o5 o6 : Option Sl), Lab p lab → (∀ t ∈ xs, 0 ≤ t ∧ t < (roads.length : Int) ∧ Road p (ixr roads t)) →
      forGo (.nm 4) b_law_is_forest_1 (xs.map .int) [some (.d (tu row)), some (.d (lt roads)), some (.d (.int p)), some (.d (li lab)), o4, o5, o6, none] = (if forB roads xs lab = true then forGo (.nm 4) b_law_is_forest_1 (xs.map .int) [some (.d (tu row)), some (.d (lt roads)), some (.d (.int p)), some (.d (li lab)), o4, o5, o6, none] else .rt (.bool false)) ∧
      (forB roads xs lab = true → ∃ ρ', forGo (.nm 4) b_law_is_forest_1 (xs.map .int) [some (.d (tu row)), some (.d (lt roads)), some (.d (.int p)), some (.d (li lab)), o4, o5, o6, none] = .nx ρ') := by
    intro xs
    induction xs with
    | nil => intro lab o4 o5 o6 _ _; exact ⟨by simp [forB], fun _ => ⟨_, rfl⟩⟩
    | cons t xs ih =>
      intro lab o4 o5 o6 hL ht
      obtain ⟨t0, t1, rd⟩ := ht t List.mem_cons_self
      obtain ⟨a, b, hab, ha, hb⟩ := rd
      have er := ix_lt t0 t1
      have j1 : joinL lab (ixr roads t) = lab.map fun x => if x = ixv lab a then ixv lab b else x := by rw [hab]; rfl
      have LJ := hL.join ⟨a, b, hab, ha, hb⟩
      rw [j1] at LJ
      have fb : forB roads (t :: xs) lab = (!decide (ixv lab a = ixv lab b) && forB roads xs (lab.map fun x => if x = ixv lab a then ixv lab b else x)) := by
        show (!decide (ixv lab (ixv (ixr roads t) 0) = ixv lab (ixv (ixr roads t) 1)) && forB roads xs (joinL lab (ixr roads t))) = _
        rw [j1, hab]
        rfl
      rw [hab] at er
      have ea := ix_li (L := lab) (i := a) ha.1 (by rw [hL.len]; exact ha.2)
      have eb := ix_li (L := lab) (i := b) hb.1 (by rw [hL.len]; exact hb.2)
      rw [fb]
      by_cases e : ixv lab a = ixv lab b
      · have : forGo (.nm 4) b_law_is_forest_1 ((t :: xs).map PyData.int) [some (.d (tu row)), some (.d (lt roads)), some (.d (.int p)), some (.d (li lab)), o4, o5, o6, none] = .rt (.bool false) := by
          simp [forGo, b_law_is_forest_1, er, oIx_2a, oIx_2b, ea, eb, e]
        rw [this]
        simp [e]
      · have st : forGo (.nm 4) b_law_is_forest_1 ((t :: xs).map PyData.int) [some (.d (tu row)), some (.d (lt roads)), some (.d (.int p)), some (.d (li lab)), o4, o5, o6, none] = forGo (.nm 4) b_law_is_forest_1 (xs.map PyData.int) [some (.d (tu row)), some (.d (lt roads)), some (.d (.int p)), some (.d (li (lab.map fun x => if x = ixv lab a then ixv lab b else x))), some (.d (.int t)), some (.d (.int (ixv lab a))), some (.d (.int (ixv lab b))), none] := by
          simp [forGo, b_law_is_forest_1, er, oIx_2a, oIx_2b, ea, eb, e]
        rw [st]
        obtain ⟨i1, i2⟩ := ih (lab.map fun x => if x = ixv lab a then ixv lab b else x) (some (.d (.int t))) (some (.d (.int (ixv lab a)))) (some (.d (.int (ixv lab b)))) LJ fun u hu => ht u (List.mem_cons_of_mem _ hu)
        rw [decide_eq_false e]
        simp only [Bool.not_false, Bool.true_and]
        exact ⟨i1, i2⟩
  obtain ⟨k1, k2⟩ := key row (rangeI 0 p) none none none (Lab.start hp.1) hr
  unfold forest
  by_cases hb : forB roads row (rangeI 0 p) = true
  · obtain ⟨ρ', e⟩ := k2 hb
    rw [hb]
    simp [g_law_is_forest, bLstR1_ok (rgOk_small (n := p) (by omega) (by omega)), e]
  · rw [if_neg hb] at k1
    rw [Bool.eq_false_iff.mpr hb]
    simp [g_law_is_forest, bLstR1_ok (rgOk_small (n := p) (by omega) (by omega)), k1]
theorem v_forest_lots3 (L : List Int) (n : Int) (h0 : 0 ≤ n) (h1 : n ≤ 9) (hL : 2 + n ≤ (L.length : Int)) : ∃ ks : List (List Int), m_law_forest_lots [li L, .int n] = .ok (tt ks) ∧ Smooth n ks := by
  show ∃ ks : List (List Int), endR (g_law_forest_lots [some (.d (li L)), some (.d (.int n)), none, none, none, none, none, none, none]) = _ ∧ _
  obtain ⟨rows, e2, hr, hz2, hs⟩ := v_parts2 n h0 (by omega)
  have hz : rows.length ≤ 512 := by
    rw [hz2]
    have hp : 2 ^ n.toNat ≤ 2 ^ 9 := Nat.pow_le_pow_right (by decide) (by omega)
    omega
  have e31 := ix_li (L := L) (i := 1) (by decide) (by omega)
  have f3a := fmod_lo (ixv L 1) (b := 3) (by decide)
  have f3b := fmod_hi (ixv L 1) (b := 3) (by decide)
  generalize hp : 2 + (ixv L 1).fmod 3 = p
  have p2 : 2 ≤ p ∧ p ≤ 4 := by omega
  have p0 : p ≠ 0 := by omega
  have p1 : p.natAbs < 1073741824 := by omega
  have key := forGo_inv (i := 4) (g := b_law_forest_lots_1) (enc := PyData.int) (fun xs ρ => ∃ (k : Int) (roads : List (List Int)) (o4 o5 : Option Sl), ρ = [some (.d (li L)), some (.d (.int n)), some (.d (.int p)), some (.own (roads.map tu)), o4, o5, none, none, none] ∧ xs = rangeI k n ∧ 0 ≤ k ∧ k ≤ n ∧ (roads.length : Int) = k ∧ ∀ r ∈ roads, Road p r) (by
    rintro x xs ρ ⟨k, roads, o4, o5, rfl, hx, k0, k1, hl, hR⟩
    obtain ⟨hk1, rfl, rfl⟩ := rangeI_inv hx
    have hs : roads.length < sizeLine := line_lt (by omega)
    have ex := ix_li (L := L) (i := 2 + x) (by omega) (by omega)
    refine ⟨[some (.d (li L)), some (.d (.int n)), some (.d (.int p)), some (.own ((roads ++ [[(ixv L (2 + x)).fmod p, ((ixv L (2 + x)).fdiv p).fmod p]]).map tu)), some (.d (.int x)), some (.d (.int (ixv L (2 + x)))), none, none, none], ?_, x + 1, _, _, _, rfl, rfl, by omega, by omega, by simp; omega, fun r hr => ?_⟩
    · simp [b_law_forest_lots_1, ex, oMod_int p0, oDiv_lit p0 p1, hs, tu_2]
    · rcases List.mem_append.mp hr with hr | hr
      · exact hR r hr
      · rw [List.mem_singleton.mp hr]
        exact ⟨_, _, rfl, ⟨fmod_lo _ (by omega), fmod_hi _ (by omega)⟩, fmod_lo _ (by omega), fmod_hi _ (by omega)⟩)
  obtain ⟨ρ', e, k, roads, o4, o5, rfl, hx, k0, k1, hl, hR⟩ := key (rangeI 0 n) [some (.d (li L)), some (.d (.int n)), some (.d (.int p)), some (.own []), none, none, none, none, none] ⟨0, [], none, none, rfl, rfl, by omega, h0, rfl, by simp⟩
  have ek : k = n := by
    by_cases h : k < n
    · rw [rangeI_cons h] at hx; cases hx
    · omega
  subst ek
  have rok : ∀ r, Asc k r → ∀ t ∈ r, 0 ≤ t ∧ t < (roads.length : Int) ∧ Road p (ixr roads t) := fun r ha t ht => by
    have := ha.2 t ht
    exact ⟨this.1, by omega, hR _ (ixr_mem this.1 (by omega))⟩
  have ef : ∀ r ∈ rows, m_law_is_forest [tu r, lt roads, .int p] = .ok (.bool (forest roads p r)) := fun r hr2 => v_forest3 r roads p ⟨by omega, by omega⟩ (rok r ((hr r).mp hr2))
  have f0 : forest roads p [] = true := rfl
  have er := rngA1_ok (n := k) (by omega) (by omega)
  have e5 : lcR (fun r : List Int => m_law_is_forest [tu r, lt roads, .int p] >>= asB) (fun r => R.ok (tu r)) rows = .ok ((rows.filter (forest roads p)).map tu) := lcR_of fun r hr2 => ⟨by rw [ef r hr2]; rfl, fun _ => rfl⟩
  have hne : rows.filter (forest roads p) ≠ [] := fun z => by
    have : [] ∈ rows.filter (forest roads p) := List.mem_filter.mpr ⟨(hr []).mpr (Asc.nil k), f0⟩
    rw [z] at this; cases this
  generalize hF : rows.filter (forest roads p) = F at e5 hne
  have hFr : ∀ r, r ∈ F ↔ Asc k r ∧ forest roads p r = true := fun r => by rw [← hF, List.mem_filter, hr]
  have hFl : F.length ≤ 512 := by rw [← hF]; exact Nat.le_trans (List.length_filter_le _ _) hz
  have hFs : Asd F := by rw [← hF]; exact (hs : Asd rows).filter _
  have hmx := bMax_li (l := F.map fun r => (r.length : Int)) (by simpa using hne)
  have hmem := maxI_mem (ns := F.map fun r => (r.length : Int)) (List.length_pos_iff.mpr (by simpa using hne))
  have hup : ∀ r, r ∈ F → (r.length : Int) ≤ maxI (F.map fun r => (r.length : Int)) := fun r h => le_maxI (List.mem_map.mpr ⟨r, h, rfl⟩)
  generalize hM : maxI (F.map fun r => (r.length : Int)) = M at hmx hmem hup
  have mem : ∀ r, r ∈ (F.filter fun r => (r.length : Int) == M) ↔ (Asc k r ∧ forest roads p r = true) ∧ (r.length : Int) = M := fun r => by rw [List.mem_filter, hFr]; simp
  refine ⟨F.filter fun r => (r.length : Int) == M, ?_, ⟨fun l hl => ((mem l).mp hl).1.1, hFs.filter _, fun z => ?_, ?_⟩, fun l hl x hx o ho nx => ?_, fun l hl q hq => ?_⟩
  · simp [g_law_forest_lots, e31, oMod_int, hp, er, e, e2, e5, hmx]
  · obtain ⟨r0, h3, h4⟩ := List.mem_map.mp hmem
    have : r0 ∈ F.filter fun r => (r.length : Int) == M := List.mem_filter.mpr ⟨h3, by rw [beq_iff_eq]; exact h4⟩
    rw [z] at this; cases this
  · have := List.length_filter_le (fun r : List Int => (r.length : Int) == M) F
    omega
  · obtain ⟨⟨la, lf⟩, ll⟩ := (mem l).mp hl
    obtain ⟨⟨oa, of⟩, ol⟩ := (mem o).mp ho
    obtain ⟨t, t1, t2, t3⟩ := forest_exc (p := p) (by omega) la oa (fun t ht => (rok l la t ht).2.2) (fun t ht => (rok o oa t ht).2.2) lf of (by omega) hx nx
    exact ⟨t, t1, t2, (mem _).mpr ⟨⟨exch_asc la t2 (oa.2 t t1), t3⟩, by rw [exch_len la.nodup hx]; exact ll⟩⟩
  · have a := ((mem l).mp hl).2
    have b := ((mem q).mp hq).2
    omega
theorem v_smooth3 (c n : Int) (h0 : 0 ≤ n) (h1 : n ≤ 9) : ∃ ks : List (List Int), m_law_smooth_lots_k03 [.int c, .int n] = .ok (tt ks) ∧ Smooth n ks := by
  show ∃ ks : List (List Int), endR (g_law_smooth_lots_k03 [some (.d (.int c)), some (.d (.int n)), none, none, none, none]) = _ ∧ _
  obtain ⟨L, e1, hL, bL⟩ := v_draws c (3 + n) (by omega) (by omega)
  have hLn : (L.length : Int) = 3 + n := by rw [hL]; omega
  have e30 := ix_li (L := L) (i := 0) (by decide) (by omega)
  have hrest : ∀ ls : List (List Int), lcR (fun _ => R.ok true) (fun l => m_law_rest_of [tu l, .int n]) ls = .ok (ls.map fun l => tu ((rangeI 0 n).filter fun x => !decide (x ∈ l))) := fun ls => lcR_mem fun l _ => v_rest_of l n h0 (by omega)
  generalize hk : (ixv L 0).fmod 6 = k
  have any : ∀ d : PyData, ∀ ks : List (List Int), d = tt ks → Smooth n ks → (k < 4 → m_law_bounded_lots [li L, .int n] = .ok d) → (¬ k < 4 → m_law_forest_lots [li L, .int n] = .ok d) →
      ∃ ks : List (List Int), endR (g_law_smooth_lots_k03 [some (.d (.int c)), some (.d (.int n)), none, none, none, none]) = .ok (tt ks) ∧ Smooth n ks := by
    rintro d ks rfl hs hb hf
    by_cases h35 : k = 3 ∨ k = 5
    · refine ⟨sortT (ks.map fun l => (rangeI 0 n).filter fun x => !decide (x ∈ l)), ?_, hs.opp⟩
      · by_cases h4 : k < 4
        · have h : k = 3 := by omega
          simp [g_law_smooth_lots_k03, e1, e30, oMod_int, hk, hb h4, h, hrest]
        · have h : k = 5 := by omega
          simp [g_law_smooth_lots_k03, e1, e30, oMod_int, hk, hf h4, h, hrest]
    · refine ⟨ks, ?_, hs⟩
      have n3 : ¬ k = 3 := fun h => h35 (.inl h)
      have n5 : ¬ k = 5 := fun h => h35 (.inr h)
      by_cases h4 : k < 4
      · simp [g_law_smooth_lots_k03, e1, e30, oMod_int, hk, h4, hb h4, n3, n5]
      · simp [g_law_smooth_lots_k03, e1, e30, oMod_int, hk, h4, hf h4, n3, n5]
  by_cases h4 : k < 4
  · obtain ⟨ks, q1, q2⟩ := v_bounded3 L n h0 h1 hLn
    exact any _ ks rfl q2 (fun _ => q1) fun h => absurd h4 h
  · obtain ⟨ks, q1, q2⟩ := v_forest_lots3 L n h0 h1 (by omega)
    exact any _ ks rfl q2 (fun h => absurd h h4) fun _ => q1
end LW
set_option Elab.async false
set_option maxRecDepth 100000
set_option linter.all false
set_option maxHeartbeats 2000000
set_option Elab.async false
set_option maxRecDepth 100000
set_option linter.all false
set_option maxHeartbeats 2000000
namespace LW
open PySem PySem.Spec PyProof.Rows L2 PD
theorem lcGo_of {α : Type} {enc : α → PyData} {t : Tg} {ft : DnB} {fe : Dn} {ρ : Rho} {st : α → Rho} {q : α → Bool} {g : α → PyData} : ∀ {xs : List α}, (∀ x ∈ xs, t.set (enc x) ρ = some (st x) ∧ ft (st x) = .ok (q x) ∧ (q x = true → fe (st x) = .ok (g x))) → lcGo t ft fe ρ (xs.map enc) = .ok ((xs.filter q).map g)
  | [], _ => rfl
  | x :: xs, h => by
    obtain ⟨h1, h2, h3⟩ := h x List.mem_cons_self
    have ih := lcGo_of (xs := xs) fun y hy => h y (List.mem_cons_of_mem _ hy)
    rw [List.map_cons]
    unfold lcGo
    rw [h1]
    dsimp only
    rw [h2, nx_ok', ih]
    cases e : q x with
    | false => simp [e]
    | true => rw [h3 e]; simp [e]
theorem lc_of {α : Type} {enc : α → PyData} {fi : DnL} {t : Tg} {ft : DnB} {fe : Dn} {vs : List Nat} {ρ : Rho} {xs : List α} {st : α → Rho} {q : α → Bool} {g : α → PyData} (hi : fi ρ = .ok (xs.map enc)) (h : ∀ x ∈ xs, t.set (enc x) (wipeR ρ vs) = some (st x) ∧ ft (st x) = .ok (q x) ∧ (q x = true → fe (st x) = .ok (g x))) :
    dLc fi t ft fe vs ρ = .ok (.list ((xs.filter q).map g)) := by
  unfold dLc
  rw [hi, R.bind_ok, lcGo_of h]
  rfl
def idx {α : Type} (k : Int) : List α → List (Int × α)
  | [] => []
  | x :: xs => (k, x) :: idx (k + 1) xs
def encI {α : Type} (enc : α → PyData) (p : Int × α) : PyData := .tuple [.int p.1, enc p.2]
theorem enumF_map {α : Type} (enc : α → PyData) : ∀ (k : Int) (xs : List α), enumF k (xs.map enc) = (idx k xs).map (encI enc)
  | _, [] => rfl
  | k, x :: xs => by
    show _ :: _ = _ :: _
    rw [enumF_map enc (k + 1) xs]
    rfl
@[simp] theorem ev_enum (g : DnL) (ρ : Rho) : dEnum g ρ = (g ρ >>= enumA) := rfl
@[simp] theorem enumA_1 (d : PyData) : enumA [d] = (items d >>= fun ds => .ok (enumF 0 ds)) := rfl
@[simp] theorem ev_zip (g : DnL) (ρ : Rho) : dZip g ρ = (g ρ >>= zipA) := rfl
@[simp] theorem zipA_2 (d e : PyData) : zipA [d, e] = (items d >>= fun ds => items e >>= fun es => .ok (zipD ds es)) := rfl
def bestF {α : Type} (key : α → Int) : List α → α → α
  | [], b => b
  | y :: ys, b => bestF key ys (if key y < key b then y else b)
/-- the first one of the least -/
def best {α : Type} (key : α → Int) : List α → Option α
  | [] => none
  | x :: xs => some (bestF key xs x)
@[simp] theorem ev_setAt (i : Nat) (fi fe : Dn) (ρ : Rho) : gSetAt i fi fe ρ = oR (fe ρ) ρ fun y => ownA ρ[i]? fun ds => match fi ρ with
  | .ok (.int k) => match ixN ds.length k with
    | some j => .nx (ρ.set i (some (.own (ds.set j y))))
    | none => .bad
  | _ => .bad := rfl
@[simp] theorem oEq_li (a b : List Int) : oEq (li a) (li b) = .ok (.bool (decide (a = b))) := by simp [oEq]
@[simp] theorem oNe_li (a b : List Int) : oNe (li a) (li b) = .ok (.bool (!decide (a = b))) := by simp [oNe]
@[simp] theorem oEq_lt (a b : List (List Int)) : oEq (lt a) (lt b) = .ok (.bool (decide (a = b))) := by simp [oEq]
@[simp] theorem oNe_lt (a b : List (List Int)) : oNe (lt a) (lt b) = .ok (.bool (!decide (a = b))) := by simp [oNe]
end LW
set_option Elab.async false
set_option maxRecDepth 100000
set_option linter.all false
set_option maxHeartbeats 2000000
namespace LW
open PySem PySem.Spec PyProof.Rows L2 PD
@[simp] theorem oPow_10_30 : oPow (.int 10) (.int 30) = .ok (.int 1000000000000000000000000000000) := by
  have h : CPow 10 30 := ⟨by decide, by decide, by decide⟩
  show (if CPow 10 30 then R.ok (PyData.int (10 ^ (30 : Int).toNat)) else .bad) = _
  rw [if_pos h]; rfl
def pr (P l : List Int) : Int := (l.map fun x => ixv P x).sum
end LW
set_option Elab.async false
set_option maxRecDepth 100000
set_option linter.all false
set_option maxHeartbeats 2000000
namespace LW
open PySem PySem.Spec PyProof.Rows L2 PD
structure Pl where
  ls : List (List Int)
  C : List (List Int)
  w : Int
def plx (ps : List Pl) (i : Int) : Pl := (ps[i.toNat]?).getD ⟨[], [], 0⟩
/-- the sum of the weights of those whose lot has x -/
def wlz (zs : List (Pl × List Int)) (x : Int) : Int := (zs.map fun z => if x ∈ z.2 then z.1.w else 0).sum
def wl (ps : List Pl) (ch : List (List Int)) (x : Int) : Int := wlz (ps.zip ch) x
def cost (C : List (List Int)) (x k : Int) : Int := ixv (ixr C x) (k - 1)
theorem v_cost_at (C : List (List Int)) (x k : Int) (h0 : 0 ≤ x) (h1 : x < (C.length : Int)) (h2 : 1 ≤ k) (h3 : k ≤ ((ixr C x).length : Int)) : m_cost_at [tt C, .int x, .int k] = .ok (.int (cost C x k)) := by
  show endR (g_cost_at [some (.d (tt C)), some (.d (.int x)), some (.d (.int k))]) = _
  simp [g_cost_at, ix_tt h0 h1, ix_tu (L := ixr C x) (i := k - 1) (by omega) (by omega), cost]
structure Play (n : Int) (ps : List Pl) : Prop where
  n0 : 0 ≤ n
  n1 : n ≤ 900
  good : ∀ p ∈ ps, Good n p.ls
  rows : ∀ p ∈ ps, (p.C.length : Int) = n
  room : ∀ p ∈ ps, ∀ r ∈ p.C, (ps.map fun p => p.w).sum ≤ (r.length : Int)
  w1 : ∀ p ∈ ps, 1 ≤ p.w
structure Chs (ps : List Pl) (ch : List (List Int)) : Prop where
  len : ch.length = ps.length
  mem : ∀ i, 0 ≤ i → i < (ps.length : Int) → ixr ch i ∈ (plx ps i).ls
theorem plx_mem {ps : List Pl} {i : Int} (h0 : 0 ≤ i) (h1 : i < (ps.length : Int)) : plx ps i ∈ ps := by
  have hl : i.toNat < ps.length := by omega
  unfold plx
  rw [List.getElem?_eq_getElem hl]
  exact List.getElem_mem hl
theorem Chs.asc {n : Int} {ps : List Pl} {ch : List (List Int)} (P : Play n ps) (c : Chs ps ch) : ∀ l ∈ ch, Asc n l := fun l hl => by
  obtain ⟨j, hj, e⟩ := List.getElem_of_mem hl
  have := c.len
  have m := c.mem j (by omega) (by omega)
  have e2 : ixr ch j = l := by
    unfold ixr
    rw [show ((j : Int)).toNat = j by omega, List.getElem?_eq_getElem hj, e]; rfl
  rw [e2] at m
  exact (P.good _ (plx_mem (by omega) (by omega))).asc l m
def opr (ps : List Pl) (ch : List (List Int)) (i x : Int) : Int := cost (plx ps i).C x (wl ps ch x + if x ∈ ixr ch i then 0 else (plx ps i).w)
end LW
set_option Elab.async false
set_option maxRecDepth 100000
set_option linter.all false
set_option maxHeartbeats 2000000
namespace LW
open PySem PySem.Spec PyProof.Rows L2 PD
/-- rows of one length whose entries don't fall -/
def Rows (n m : Int) (C : List (List Int)) : Prop := (C.length : Int) = n ∧ ∀ r ∈ C, (r.length : Int) = m ∧ r.Pairwise (· ≤ ·)
def tkD (n : Int) (p : Pl) : PyData := .tuple [ofr n p.ls, tt p.C]
def gmD (n : Int) (ps : List Pl) : PyData := .tuple (ps.map (tkD n))
structure Game (n : Int) (ps : List Pl) : Prop extends Play n ps where
  one : ∀ p ∈ ps, p.w = 1
  up : ∀ p ∈ ps, ∀ r ∈ p.C, r.Pairwise (· ≤ ·)
theorem sum_one {ps : List Pl} (h : ∀ p ∈ ps, p.w = 1) : (ps.map fun p => p.w).sum = ps.length := by
  induction ps with
  | nil => rfl
  | cons p ps ih =>
    rw [List.map_cons, List.sum_cons, ih fun q hq => h q (List.mem_cons_of_mem _ hq), h p List.mem_cons_self, List.length_cons]
    omega
theorem ix_tk {ps : List Pl} {n i : Int} (h0 : 0 ≤ i) (h1 : i < (ps.length : Int)) : oIx (gmD n ps) (.int i) = .ok (tkD n (plx ps i)) := by
  have hl : i.toNat < ps.length := by omega
  have e : (ps)[i.toNat]? = some (plx ps i) := by
    unfold plx
    rw [List.getElem?_eq_getElem hl]; rfl
  show (match atI (ps.map (tkD n)) i with | some d => R.ok d | none => .bad) = _
  rw [atI_get (tkD n) h0 e]
end LW
set_option Elab.async false
set_option maxRecDepth 100000
set_option linter.all false
set_option maxHeartbeats 2000000
namespace LW
open PySem PySem.Spec PyProof.Rows L2 PD
/-- with weights of 1: the number of lots that have x -/
def load (ch : List (List Int)) (x : Int) : Int := ((ch.filter fun l => decide (x ∈ l)).length : Int)
/-- what a taker pays -/
def payD (ps : List Pl) (ch : List (List Int)) (i : Int) : Int := ((ixr ch i).map fun x => cost (plx ps i).C x (wl ps ch x)).sum
end LW
set_option Elab.async false
set_option maxRecDepth 100000
set_option linter.all false
set_option maxHeartbeats 2000000
namespace LW
open PySem PySem.Spec PyProof.Rows L2 PD
def withL (ch : List (List Int)) (i : Int) (l : List Int) : List (List Int) := ch.set i.toNat l
theorem oAdd_tt {a b : List (List Int)} (h : a.length + b.length ≤ 100000) : oAdd (tt a) (tt b) = .ok (tt (a ++ b)) := by
  show (if (a.map tu).length + (b.map tu).length ≤ sizeLine then R.ok (PyData.tuple (a.map tu ++ b.map tu)) else .bad) = _
  rw [List.length_map, List.length_map, if_pos (by rw [sizeLine_eq]; omega), ← List.map_append]
  rfl
theorem cut_to {ch : List (List Int)} {k : Nat} (h : k ≤ ch.length) : oCut (tt ch) none (some (k : Int)) = .ok (tt (ch.take k)) := by
  show R.ok (PyData.tuple (PD.cutD (ch.map tu) none (some (k : Int)))) = _
  unfold PD.cutD
  rw [HT.sIx_nat, HT.sIx_none, List.length_map, Nat.min_eq_left h, List.drop_zero, Nat.sub_zero, ← List.map_take]
  rfl
theorem cut_from {ch : List (List Int)} {k : Nat} (h : k ≤ ch.length) : oCut (tt ch) (some (k : Int)) none = .ok (tt (ch.drop k)) := by
  show R.ok (PyData.tuple (PD.cutD (ch.map tu) (some (k : Int)) none)) = _
  unfold PD.cutD
  rw [HT.sIx_nat, HT.sIx_none, List.length_map, Nat.min_eq_left h, ← List.map_drop, List.take_of_length_le (by rw [List.length_map, List.length_drop]; omega)]
  rfl
theorem cut_to' {ch : List (List Int)} {i : Int} (h0 : 0 ≤ i) (h1 : i < (ch.length : Int)) : oCut (tt ch) none (some i) = .ok (tt (ch.take i.toNat)) := by
  have := cut_to (ch := ch) (k := i.toNat) (by omega)
  rwa [show ((i.toNat : Nat) : Int) = i by omega] at this
theorem cut_from' {ch : List (List Int)} {i : Int} (h0 : 0 ≤ i) (h1 : i < (ch.length : Int)) : oCut (tt ch) (some (i + 1)) none = .ok (tt (ch.drop (i.toNat + 1))) := by
  have := cut_from (ch := ch) (k := i.toNat + 1) (by omega)
  rwa [show ((i.toNat + 1 : Nat) : Int) = i + 1 by omega] at this
theorem with_eq {ch : List (List Int)} {i : Int} {l : List Int} (h0 : 0 ≤ i) (h1 : i < (ch.length : Int)) : ch.take i.toNat ++ [l] ++ ch.drop (i.toNat + 1) = withL ch i l := by
  unfold withL
  rw [List.set_eq_take_append_cons_drop, if_pos (by omega), List.append_assoc]
  rfl
/-- the own prices -/
def own (n : Int) (ps : List Pl) (ch : List (List Int)) (i : Int) : List Int := (rangeI 0 n).map (opr ps ch i)
end LW
set_option Elab.async false
set_option linter.all false
set_option maxRecDepth 100000
set_option maxHeartbeats 4000000
set_option Elab.async false
set_option maxRecDepth 100000
set_option linter.all false
set_option maxHeartbeats 2000000
set_option Elab.async false
set_option maxRecDepth 100000
set_option linter.all false
set_option maxHeartbeats 2000000
set_option Elab.async false
set_option maxRecDepth 100000
set_option linter.all false
set_option maxHeartbeats 2000000
namespace LW
open PySem PySem.Spec PyProof.Rows L2 PD
def gainO (n : Int) (ps : List Pl) (ch : List (List Int)) (i : Int) : Option (Int × List Int) := (best (pr (own n ps ch i)) (plx ps i).ls).bind fun l => if pr (own n ps ch i) l < payD ps ch i then some (i, l) else none
def firstG (n : Int) (ps : List Pl) (ch : List (List Int)) : Option (Int × List Int) := (rangeI 0 ps.length).findSome? (gainO n ps ch)
end LW
set_option Elab.async false
set_option maxRecDepth 100000
set_option linter.all false
set_option maxHeartbeats 2000000
namespace LW
open PySem PySem.Spec PyProof.Rows L2 PD
def addC (cs : List (List (List Int))) (ls : List (List Int)) : List (List (List Int)) := cs.flatMap fun c => ls.map fun l => c ++ [l]
def foldC (ps : List Pl) (cs : List (List (List Int))) : List (List (List Int)) := ps.foldl (fun cs p => addC cs p.ls) cs
def allC (ps : List Pl) : List (List (List Int)) := foldC ps [[]]
theorem addC_len (cs : List (List (List Int))) (ls : List (List Int)) : (addC cs ls).length = cs.length * ls.length := by
  unfold addC
  induction cs with
  | nil => simp
  | cons c cs ih => rw [List.flatMap_cons, List.length_append, ih, List.length_map, List.length_cons, Nat.add_mul, Nat.one_mul, Nat.add_comm]
theorem foldC_len (b : Nat) : ∀ (qs : List Pl) (cs : List (List (List Int))), (∀ q ∈ qs, q.ls.length ≤ b) → (foldC qs cs).length ≤ cs.length * b ^ qs.length
  | [], cs, _ => by simp [foldC]
  | q :: qs, cs, h => by
    have := foldC_len b qs (addC cs q.ls) fun y hy => h y (List.mem_cons_of_mem _ hy)
    refine Nat.le_trans this ?_
    rw [addC_len, List.length_cons, Nat.pow_succ, Nat.mul_comm (b ^ qs.length) b, ← Nat.mul_assoc]
    exact Nat.mul_le_mul_right _ (Nat.mul_le_mul_left _ (h q List.mem_cons_self))
theorem nodup_len {α : Type} [DecidableEq α] : ∀ {xs ys : List α}, xs.Nodup → (∀ x ∈ xs, x ∈ ys) → xs.length ≤ ys.length
  | [], ys, _, _ => Nat.zero_le _
  | x :: xs, ys, hn, h => by
    obtain ⟨h1, h2⟩ := List.nodup_cons.mp hn
    have hx := h x List.mem_cons_self
    have := nodup_len (xs := xs) (ys := ys.erase x) h2 fun y hy => (List.mem_erase_of_ne (by rintro rfl; exact h1 hy)).mpr (h y (List.mem_cons_of_mem _ hy))
    rw [List.length_erase_of_mem hx] at this
    have := List.length_pos_of_mem hx
    rw [List.length_cons]
    omega
/-- few choices: b lots each at most, and b to their number not over 5000 -/
structure Few (ps : List Pl) (b : Nat) : Prop where
  pos : 1 ≤ b
  each : ∀ p ∈ ps, p.ls.length ≤ b
  all : b ^ ps.length ≤ 5000
theorem Few.len {ps : List Pl} {b : Nat} (f : Few ps b) : (allC ps).length ≤ 5000 := by
  have := foldC_len b ps [[]] f.each
  rw [List.length_singleton, Nat.one_mul] at this
  exact Nat.le_trans this f.all
theorem tk_p1 (n : Int) (p : Pl) : oIx (tkD n p) (.int 1) = .ok (tt p.C) := rfl
theorem of_p0 (n : Int) (ls : List (List Int)) : oIx (ofr n ls) (.int 0) = .ok (.int n) := rfl
theorem of_p1 (n : Int) (ls : List (List Int)) : oIx (ofr n ls) (.int 1) = .ok (tt ls) := rfl
end LW
set_option Elab.async false
set_option maxRecDepth 100000
set_option linter.all false
set_option maxHeartbeats 2000000
set_option Elab.async false
set_option maxRecDepth 100000
set_option linter.all false
set_option maxHeartbeats 2000000
set_option Elab.async false
set_option maxRecDepth 100000
set_option linter.all false
set_option maxHeartbeats 2000000
set_option Elab.async false
set_option linter.all false
set_option maxRecDepth 100000
set_option maxHeartbeats 4000000
set_option Elab.async false
set_option maxRecDepth 100000
set_option linter.all false
set_option maxHeartbeats 2000000
namespace LW
open PySem PySem.Spec PyProof.Rows L2 PD
/-- a while loop with a measure -/
theorem while_inv {fb : DnB} {g : Sn} (S : Nat → Rho → Prop) (hs : ∀ m ρ, S m ρ → (fb ρ = .ok true ∧ ∃ m' ρ', m' < m ∧ g ρ = .nx ρ' ∧ S m' ρ') ∨ fb ρ = .ok false) : ∀ (n m : Nat) (ρ : Rho), m < n → S m ρ → ∃ m' ρ', whGo fb g n ρ = .nx ρ' ∧ S m' ρ' ∧ fb ρ' = .ok false
  | 0, m, ρ, h, _ => by omega
  | n + 1, m, ρ, h, s => by
    unfold whGo
    rcases hs m ρ s with ⟨e, m', ρ', hm, e2, s2⟩ | e
    · obtain ⟨m2, ρ2, q1, q2, q3⟩ := while_inv S hs n m' ρ' (by omega) s2
      refine ⟨m2, ρ2, ?_, q2, q3⟩
      rw [e]
      show (match g ρ with | .nx ρ' => whGo fb g n ρ' | .ct ρ' => whGo fb g n ρ' | .bk ρ' => .nx ρ' | o => o) = _
      rw [e2]
      exact q1
    · refine ⟨m, ρ, ?_, s, e⟩
      rw [e]
      rfl
def freeB (ls : List (List Int)) (t : List Int) : Bool := ls.any fun l => t.all fun x => decide (x ∈ l)
def cand (n : Int) (ls : List (List Int)) (u : List Int) : List Int := (rangeI 0 n).filter fun x => !decide (x ∈ u) && freeB ls (u ++ [x])
def G (n : Int) (ls : List (List Int)) (P : List Int) : Nat → List Int
  | 0 => []
  | k + 1 => match best (ixv P) (cand n ls (G n ls P k)) with
    | some b => G n ls P k ++ [b]
    | none => G n ls P k
end LW
set_option Elab.async false
set_option maxRecDepth 100000
set_option linter.all false
set_option maxHeartbeats 2000000
namespace LW
open PySem PySem.Spec PyProof.Rows L2 PD
def lv (l : List Int) (x : Int) : List Int := l.filter fun y => !(y == x)
theorem mem_lv {l : List Int} {x y : Int} : y ∈ lv l x ↔ y ∈ l ∧ ¬ y = x := by unfold lv; simp
theorem lv_asc {n x : Int} {l : List Int} (h : Asc n l) : Asc n (lv l x) := ⟨h.1.sublist List.filter_sublist, fun y hy => h.2 y (mem_lv.mp hy).1⟩
theorem lv_len {l : List Int} {x : Int} (nd : l.Nodup) (hx : x ∈ l) : (lv l x).length + 1 = l.length := by
  have e : lv l x = l.erase x := (nd.erase_eq_filter x).symm
  have := List.length_pos_of_mem hx
  rw [e, List.length_erase_of_mem hx]
  omega
def Free (n : Int) (ls : List (List Int)) (k : List Int) : Prop := Asc n k ∧ ∃ l ∈ ls, ∀ y ∈ k, y ∈ l
theorem Free.lv {n x : Int} {ls : List (List Int)} {k : List Int} (h : Free n ls k) : Free n ls (lv k x) :=
  ⟨lv_asc h.1, let ⟨l, a, b⟩ := h.2; ⟨l, a, fun y hy => b y (mem_lv.mp hy).1⟩⟩
theorem v_fewer (l : List Int) : m_fewer_by_one [tu l] = .ok (lt (l.map (lv l))) := by
  show endR (g_fewer_by_one [some (.d (tu l)), none]) = _
  have : lcR (fun _ => .ok true) (fun x => m_leave_out [tu l, .int x]) l = .ok (l.map fun x => tu (lv l x)) := lcR_mem fun x _ => v_leave_out l x
  simp [g_fewer_by_one, this]
@[simp] theorem ev_newD (i : Nat) (ρ : Rho) : gNewD i ρ = .nx (ρ.set i (some (.dct []))) := rfl
def dctA (s : Option (Option Sl)) (k : List (List Int) → Out) : Out := match s with
  | some (some (.dct ds)) => k ds
  | _ => .bad
@[simp] theorem dctA_d (ks : List (List Int)) (k : List (List Int) → Out) : dctA (some (some (.dct ks))) k = k ks := rfl
@[simp] theorem ev_putD (i : Nat) (f : Dn) (ρ : Rho) : gPutD i f ρ = dctA ρ[i]? fun ks => oR (f ρ) ρ fun d => match asTu d with
  | some k => if ks.length < sizeLine then .nx (ρ.set i (some (.dct (if k ∈ ks then ks else ks ++ [k])))) else .bad
  | none => .bad := rfl
@[simp] theorem ev_setPop (j i : Nat) (ρ : Rho) : gSetPop j i ρ = ownA ρ[i]? fun ds => match ds.getLast? with
  | some d => .nx ((ρ.set i (some (.own ds.dropLast))).set j (some (.d d)))
  | none => .bad := rfl
def extO (d : PyData) (ds : List PyData) (ρ : Rho) (i : Nat) : Out := match d with
  | .list es => if ds.length + es.length ≤ sizeLine then .nx (ρ.set i (some (.own (ds ++ es)))) else .bad
  | _ => .bad
@[simp] theorem extO_lt (l : List (List Int)) (ds : List PyData) (ρ : Rho) (i : Nat) : extO (lt l) ds ρ i = if ds.length + l.length ≤ sizeLine then .nx (ρ.set i (some (.own (ds ++ l.map tu)))) else .bad := by
  show (if ds.length + (l.map tu).length ≤ sizeLine then _ else _) = _
  rw [List.length_map]
@[simp] theorem ev_ext (i : Nat) (f : Dn) (ρ : Rho) : gExt i f ρ = ownA ρ[i]? fun ds => oR (f ρ) ρ fun d => extO d ds ρ i := rfl
def frzDA (ρ : Rho) (i : Nat) (s : Option (Option Sl)) : Option Rho := match s with
  | some (some (.dct ks)) => some (ρ.set i (some (.d (.dict (ks.map keyD)))))
  | _ => none
@[simp] theorem frzDA_d (ρ : Rho) (i : Nat) (ks : List (List Int)) : frzDA ρ i (some (some (.dct ks))) = some (ρ.set i (some (.d (.dict (ks.map keyD))))) := rfl
theorem ev_frzD (i : Nat) (g : Sn) (ρ : Rho) : gFrzD i g ρ = match frzDA ρ i ρ[i]? with
  | some ρ' => g ρ'
  | none => .bad := rfl
@[simp] theorem oNotInT_tu (k : List Int) (ks : List (List Int)) : oNotInT (tu k) (.dict (ks.map keyD)) = .ok (.bool (!decide (k ∈ ks))) := by
  have h := oInT_tu k ks
  unfold oInT at h
  unfold oNotInT
  rw [asTu_tu] at h ⊢
  simp only [marked_keyD, Bool.false_eq_true, if_false, R.ok.injEq, PyData.bool.injEq] at h ⊢
  rw [h]
@[simp] theorem oNotInT_tu' (k : List Int) (ks : List (List Int)) : oNotInT (tu k) (.dict (ks.map fun k => (tu k, PyData.bool true))) = .ok (.bool (!decide (k ∈ ks))) := oNotInT_tu k ks
/-- what is left to see -/
def unseen (U ks : List (List Int)) : List (List Int) := U.filter fun k => !decide (k ∈ ks)
theorem unseen_less {U ks : List (List Int)} {k : List Int} (hk : k ∈ U) (h : ¬ k ∈ ks) (nd : U.Nodup) : (unseen U (ks ++ [k])).length + 1 = (unseen U ks).length := by
  have e : unseen U (ks ++ [k]) = (unseen U ks).erase k := by
    rw [List.Nodup.erase_eq_filter (l := unseen U ks) (List.Pairwise.filter _ nd)]
    unfold unseen
    rw [List.filter_filter]
    refine List.filter_congr fun z _ => ?_
    by_cases a : z ∈ ks <;> by_cases b : z = k <;> simp [a, b]
  have m : k ∈ unseen U ks := List.mem_filter.mpr ⟨hk, by simp [h]⟩
  have := List.length_pos_of_mem m
  rw [e, List.length_erase_of_mem m]
  omega
structure FS (n : Int) (ls U ks todo : List (List Int)) : Prop where
  free : ∀ k ∈ ks, Free n ls k
  nd : ks.Nodup
  tdo : ∀ k ∈ todo, Free n ls k
  cl : ∀ k ∈ ks, ∀ x ∈ k, lv k x ∈ ks ∨ lv k x ∈ todo
  lot : ∀ l ∈ ls, l ∈ ks ∨ l ∈ todo
theorem fs_all {n : Int} {ls U ks : List (List Int)} (s : FS n ls U ks []) (ha : ∀ l ∈ ls, Asc n l) : ∀ k, k ∈ ks ↔ Free n ls k := by
  have cl : ∀ k ∈ ks, ∀ x ∈ k, lv k x ∈ ks := fun k hk x hx => by
    rcases s.cl k hk x hx with h | h
    · exact h
    · cases h
  have down : ∀ (m : Nat) (l k : List Int), l.length = m → l ∈ ks → Asc n k → (∀ y ∈ k, y ∈ l) → k ∈ ks := by
    intro m
    induction m with
    | zero =>
      intro l k e hl hk hs
      have : l = [] := List.length_eq_zero_iff.mp e
      subst this
      have : k = [] := List.eq_nil_iff_forall_not_mem.mpr fun y hy => nomatch (hs y hy)
      rw [this]; exact hl
    | succ m ih =>
      intro l k e hl hk hs
      by_cases he : ∃ x ∈ l, ¬ x ∈ k
      · obtain ⟨x, hx, hxk⟩ := he
        refine ih (lv l x) k ?_ (cl l hl x hx) hk fun y hy => mem_lv.mpr ⟨hs y hy, fun e => hxk (by rw [← e]; exact hy)⟩
        have nd := (s.free l hl).1.nodup
        have := lv_len nd hx
        omega
      · have : k = l := asc_ext hk.1 (s.free l hl).1.1 fun y => ⟨hs y, fun hy => by
          by_cases c : y ∈ k
          · exact c
          · exact absurd ⟨y, hy, c⟩ he⟩
        rw [this]; exact hl
  intro k
  refine ⟨s.free k, fun ⟨hk, l, hl, hs⟩ => ?_⟩
  rcases s.lot l hl with h | h
  · exact down _ l k rfl h hk hs
  · cases h
theorem v_free_sets (n : Int) (ls : List (List Int)) (h0 : 0 ≤ n) (h1 : n ≤ 12) (g : Good n ls) : ∃ ks : List (List Int), m_free_sets [ofr n ls] = .ok (.dict (ks.map keyD)) ∧ ks.Nodup ∧ (∀ k, k ∈ ks ↔ Free n ls k) ∧ ks.length ≤ 60000 := by
  show ∃ ks : List (List Int), endR (g_free_sets [some (.d (ofr n ls)), none, none, none]) = _ ∧ _
  obtain ⟨U, _, hU, lU, aU⟩ := v_parts2 n h0 h1
  have nU : n.toNat ≤ 12 := by omega
  have lU2 : U.length ≤ 4096 := by
    rw [lU]
    calc 2 ^ n.toNat ≤ 2 ^ 12 := Nat.pow_le_pow_right (by decide) nU
      _ = 4096 := by decide
  have lls := g.len
  have test : ∀ (ks todo : List (List Int)) (o3 : Option Sl), dThawB (dAsB (dTwo oGt (dArg bLen (dCons (dVar 2) dNil)) (dC (.int 0)))) [some (.d (ofr n ls)), some (.dct ks), some (.own (todo.map tu)), o3] = .ok (decide (0 < todo.length)) := fun ks todo o3 => by simp [dThawB]
  obtain ⟨m', ρ', ew, ⟨ks, todo, o3, rfl, s, rfl, hks⟩, et⟩ := while_inv (fb := dThawB (dAsB (dTwo oGt (dArg bLen (dCons (dVar 2) dNil)) (dC (.int 0))))) (g := b_free_sets_1)
    (fun m ρ => ∃ (ks todo : List (List Int)) (o3 : Option Sl), ρ = [some (.d (ofr n ls)), some (.dct ks), some (.own (todo.map tu)), o3] ∧ FS n ls U ks todo ∧ m = todo.length + 13 * (unseen U ks).length ∧ ks.length + m ≤ 60000) (by
    rintro m ρ ⟨ks, todo, o3, rfl, s, hm, hb⟩
    rcases List.eq_nil_or_concat todo with rfl | ⟨td, k, rfl⟩
    · right
      exact test _ _ _
    · left
      rw [List.concat_eq_append] at s hm ⊢
      have hp : 0 < (td ++ [k]).length := by simp
      refine ⟨by rw [test, decide_eq_true hp], ?_⟩
      have fk := s.tdo k (by simp)
      by_cases hk : k ∈ ks
      · refine ⟨td.length + 13 * (unseen U ks).length, [some (.d (ofr n ls)), some (.dct ks), some (.own (td.map tu)), some (.d (tu k))], by rw [hm]; simp, ?_, ks, td, _, rfl, ⟨s.free, s.nd, fun k' h' => s.tdo k' (by simp [h']), fun k' h' x hx => ?_, fun l hl => ?_⟩, rfl, by rw [hm] at hb; simp at hb; omega⟩
        · simp [b_free_sets_1, hk]
        · rcases s.cl k' h' x hx with q | q
          · exact .inl q
          · rcases List.mem_append.mp q with q | q
            · exact .inr q
            · rw [List.mem_singleton.mp q]; exact .inl hk
        · rcases s.lot l hl with q | q
          · exact .inl q
          · rcases List.mem_append.mp q with q | q
            · exact .inr q
            · rw [List.mem_singleton.mp q]; exact .inl hk
      · have hu := unseen_less (U := U) ((hU k).mpr fk.1) hk aU.nodup
        have lk : k.length ≤ 12 := by have := fk.1.len; omega
        rw [List.length_append, List.length_singleton] at hm
        refine ⟨(td ++ k.map (lv k)).length + 13 * (unseen U (ks ++ [k])).length, [some (.d (ofr n ls)), some (.dct (ks ++ [k])), some (.own ((td ++ k.map (lv k)).map tu)), some (.d (tu k))], by rw [hm, List.length_append, List.length_map]; omega, ?_, ks ++ [k], td ++ k.map (lv k), _, rfl, ⟨fun k' h' => ?_, ?_, fun k' h' => ?_, fun k' h' x hx => ?_, fun l hl => ?_⟩, rfl, ?_⟩
        · have z1 : ks.length < sizeLine := line_lt (by omega)
          have z2 : td.length + k.length ≤ sizeLine := Nat.le_of_lt (line_lt (by omega))
          simp [b_free_sets_1, hk, v_fewer, z1, z2]
        · rcases List.mem_append.mp h' with q | q
          · exact s.free k' q
          · rw [List.mem_singleton.mp q]; exact fk
        · rw [List.nodup_append]
          exact ⟨s.nd, by simp, fun a ha b hb => by rw [List.mem_singleton.mp hb]; exact fun e => hk (by rw [← e]; exact ha)⟩
        · rcases List.mem_append.mp h' with q | q
          · exact s.tdo k' (by simp [q])
          · obtain ⟨x, hx, rfl⟩ := List.mem_map.mp q
            exact fk.lv
        · rcases List.mem_append.mp h' with q | q
          · rcases s.cl k' q x hx with q | q
            · exact .inl (by simp [q])
            · rcases List.mem_append.mp q with q | q
              · exact .inr (by simp [q])
              · rw [List.mem_singleton.mp q]; exact .inl (by simp)
          · have e := List.mem_singleton.mp q
            subst e
            exact .inr (List.mem_append_right _ (List.mem_map.mpr ⟨x, hx, rfl⟩))
        · rcases s.lot l hl with q | q
          · exact .inl (by simp [q])
          · rcases List.mem_append.mp q with q | q
            · exact .inr (by simp [q])
            · rw [List.mem_singleton.mp q]; exact .inl (by simp)
        · rw [List.length_append, List.length_append, List.length_map, List.length_singleton]
          omega) 1000000 (ls.length + 13 * (unseen U []).length) [some (.d (ofr n ls)), some (.dct []), some (.own (ls.map tu)), none] (by
      have : (unseen U []).length ≤ U.length := List.length_filter_le _ _
      omega) ⟨[], ls, none, rfl, ⟨by simp, .nil, fun k hk => ⟨g.asc k hk, k, hk, fun _ h => h⟩, by simp, fun l hl => .inr hl⟩, rfl, by
      have : (unseen U []).length ≤ U.length := List.length_filter_le _ _
      simp only [List.length_nil]
      omega⟩
  have e0 : todo = [] := by
    rcases todo with _ | ⟨t, td⟩
    · rfl
    · rw [test] at et; simp at et
  subst e0
  refine ⟨ks, ?_, s.nd, fs_all s g.asc, by omega⟩
  have b1 : bList [tt ls] = .ok (lt ls) := rfl
  have hw : gWhile (dThawB (dAsB (dTwo oGt (dArg bLen (dCons (dVar 2) dNil)) (dC (.int 0))))) b_free_sets_1 (fun _ => 1000000) [some (.d (ofr n ls)), some (.dct []), some (.own (ls.map tu)), none] = _ := ew
  have e1 : oIx (ofr n ls) (.int 1) = .ok (tt ls) := rfl
  unfold g_free_sets
  rw [ev_seq, ev_newD]
  dsimp only [seqO_nx, List.set]
  simp only [ev_seq, ev_own, ev_arg, ev_cons, ev_two, ev_var, ev_c, ev_nil, List.getElem?_cons_zero, varR_d, R.bind_ok, e1, b1, lt, ownR, oR, List.set, seqO]
  rw [hw]
  simp [ev_frzD]
end LW
set_option Elab.async false
set_option linter.all false
set_option maxRecDepth 100000
set_option maxHeartbeats 4000000
set_option Elab.async false
set_option maxRecDepth 100000
set_option linter.all false
set_option maxHeartbeats 2000000
set_option Elab.async false
set_option maxRecDepth 100000
set_option linter.all false
set_option maxHeartbeats 2000000
namespace LW
open PySem PySem.Spec PyProof.Rows L2 PD
theorem load_le {ch : List (List Int)} {x : Int} : 0 ≤ load ch x ∧ load ch x ≤ (ch.length : Int) := by
  unfold load
  have := List.length_filter_le (fun l => decide (x ∈ l)) ch
  omega
end LW
set_option Elab.async false
set_option maxRecDepth 100000
set_option linter.all false
set_option maxHeartbeats 2000000
namespace LW
open PySem PySem.Spec PyProof.Rows L2 PD
theorem ixv_rng (f : Int → Int) {n x : Int} (x0 : 0 ≤ x) (x1 : x < n) : ixv ((rangeI 0 n).map f) x = f x := by
  unfold ixv rangeI
  rw [List.getElem?_map, List.getElem?_map, List.getElem?_range (by omega)]
  simp
  congr 1
  omega
end LW
set_option Elab.async false
set_option maxRecDepth 100000
set_option linter.all false
set_option maxHeartbeats 2000000
set_option Elab.async false
set_option linter.all false
set_option maxRecDepth 100000
set_option maxHeartbeats 4000000
set_option Elab.async false
set_option maxRecDepth 100000
set_option linter.all false
set_option maxHeartbeats 2000000
namespace LW
open PySem PySem.Spec PyProof.Rows L2 PD
theorem Good.take {n : Int} {ls : List (List Int)} (g : Good n ls) (k : Nat) (hk : 1 ≤ k) : Good n (ls.take k) :=
  ⟨fun l hl => g.asc l (List.mem_of_mem_take hl), g.asd.sublist (List.take_sublist _ _), fun e => by
    have : ls.length ≠ 0 := fun z => g.ne (List.length_eq_zero_iff.mp z)
    have e2 := congrArg List.length e
    rw [List.length_take, List.length_nil] at e2
    omega, Nat.le_trans (List.take_sublist k ls).length_le g.len⟩
theorem good_few {n : Int} {ls : List (List Int)} (h0 : 0 ≤ n) (h1 : n ≤ 4) (g : Good n ls) : ls.length ≤ 16 := by
  obtain ⟨rows, _, hr, hl, _⟩ := v_parts2 n h0 (by omega)
  have := nodup_len (ys := rows) g.asd.nodup fun l hl => (hr l).mpr (g.asc l hl)
  have hp : 2 ^ n.toNat ≤ 2 ^ 4 := Nat.pow_le_pow_right (by decide) (by omega)
  omega
/-- what a taker of such a game is -/
structure Tk (n m : Int) (w : Bool) (p : Pl) : Prop where
  good : Good n p.ls
  rows : Rows n m p.C
  one : p.w = 1
  wide : w = true → p.ls.length ≤ 2
theorem tk_game {n m : Int} {w : Bool} {ps : List Pl} (h0 : 0 ≤ n) (h1 : n ≤ 900) (hm : (ps.length : Int) ≤ m) (h : ∀ p ∈ ps, Tk n m w p) : Game n ps :=
  ⟨⟨h0, h1, fun p hp => (h p hp).good, fun p hp => (h p hp).rows.1, fun p hp r hr => by
    rw [sum_one fun p hp => (h p hp).one, ((h p hp).rows.2 r hr).1]; exact hm, fun p hp => by rw [(h p hp).one]; decide⟩, fun p hp => (h p hp).one, fun p hp r hr => ((h p hp).rows.2 r hr).2⟩
end LW
set_option Elab.async false
set_option maxRecDepth 100000
set_option linter.all false
set_option maxHeartbeats 2000000
set_option Elab.async false
set_option maxRecDepth 100000
set_option linter.all false
set_option maxHeartbeats 2000000
set_option Elab.async false
set_option maxRecDepth 100000
set_option linter.all false
set_option maxHeartbeats 2000000
namespace LW
open PySem PySem.Spec PyProof.Rows L2 PD
def frzO (ρ : Rho) (i : Nat) (s : Option (Option Sl)) : Option Rho := match s with
  | some (some (.own ds)) => some (ρ.set i (some (.d (.list ds))))
  | _ => none
@[simp] theorem frzO_own (ρ : Rho) (i : Nat) (ds : List PyData) : frzO ρ i (some (some (.own ds))) = some (ρ.set i (some (.d (.list ds)))) := rfl
end LW
set_option Elab.async false
set_option maxRecDepth 100000
set_option linter.all false
set_option maxHeartbeats 2000000
namespace LW
open PySem PySem.Spec PyProof.Rows L2 PD
theorem gTry_exc {i : Nat} {cs : List Addr} {g : Sn} {h : Addr → Value → Option Addr → Sn} {ρ ρ' : Rho} {e : Ex} {v : PyData} (hg : g ρ = .exc e ρ') (hc : e.cls ∈ cs) (hh : ∀ a c d, h a c d (ρ'.set i (some (.exn a c d e))) = .rt v) : gTry i cs g h ρ = .rt v := by
  unfold gTry
  rw [hg]
  dsimp only
  rw [if_pos hc, allA_eq hh]
  rfl
theorem isiE_at {i : Nat} {bs : List (Addr × Bool)} {a : Addr} {c : Value} {d : Option Addr} {e : Ex} {ρ : Rho} {b : Bool} (h : ρ[i]? = some (some (.exn a c d e))) (hb : bs.lookup e.cls = some b) : dIsiE i bs a c d ρ = .ok (.bool b) := by
  unfold dIsiE exnOf
  rw [h]
  simp [hb]
end LW
set_option Elab.async false
set_option maxRecDepth 100000
set_option linter.all false
set_option maxHeartbeats 2000000
set_option Elab.async false
set_option maxRecDepth 100000
set_option linter.all false
set_option maxHeartbeats 2000000
set_option Elab.async false
set_option linter.all false
set_option maxRecDepth 100000
set_option maxHeartbeats 4000000
set_option Elab.async false
set_option maxRecDepth 100000
set_option linter.all false
set_option maxHeartbeats 2000000
namespace LW
open PySem PySem.Spec PyProof.Rows L2 PD
def Steps (n : Int) (ps : List Pl) : List (List Int) → List (Int × List Int) → List (List Int) → Prop
  | ch, [], d => ch = d
  | ch, s :: ss, d => firstG n ps ch = some s ∧ Steps n ps (withL ch s.1 s.2) ss d
theorem Steps.snoc {n : Int} {ps : List Pl} {s : Int × List Int} : ∀ {ss : List (Int × List Int)} {ch d : List (List Int)}, Steps n ps ch ss d → firstG n ps d = some s → Steps n ps ch (ss ++ [s]) (withL d s.1 s.2)
  | [], ch, d, h, e => by
    have h : ch = d := h
    subst h
    exact ⟨e, rfl⟩
  | t :: ss, ch, d, h, e => ⟨h.1, Steps.snoc (ss := ss) h.2 e⟩
end LW
set_option Elab.async false
set_option maxRecDepth 100000
set_option linter.all false
set_option maxHeartbeats 2000000
namespace LW
open PySem PySem.Spec PyProof.Rows L2 PD
theorem v_any79 (c n : Int) (h0 : 0 ≤ n) (h1 : n ≤ 12) : ∃ ks : List (List Int), m_law_any_lots_k79 [.int c, .int n] = .ok (tt ks) ∧ Good n ks := by
  show ∃ ks : List (List Int), endR (g_law_any_lots_k79 [some (.d (.int c)), some (.d (.int n)), none, none, none, none]) = _ ∧ _
  obtain ⟨L, e1, hL, bL⟩ := v_draws c 9 (by decide) (by decide)
  have hL7 : L.length = 9 := hL
  obtain ⟨rows, e2, hr, hz, _⟩ := v_parts2 n h0 h1
  have e3 := ix_li (L := L) (i := 2) (by decide) (by omega)
  generalize ixv L 2 = d0 at e3
  have b1 := fmod_lo d0 (b := 6) (by decide)
  have b2 := fmod_hi d0 (b := 6) (by decide)
  have hne : 0 < rows.length := List.length_pos_of_mem ((hr []).mpr (Asc.nil n))
  have e5 := rngA1_ok (n := 1 + d0.fmod 6) (by omega) (by omega)
  have f1 : ∀ a : Int, 0 ≤ a.fmod rows.length ∧ a.fmod rows.length < rows.length := fun a => ⟨fmod_lo a (by omega), fmod_hi a (by omega)⟩
  obtain ⟨ks, e6, h6, hA, hL⟩ := v_antichain2 ((rangeI 0 (1 + d0.fmod 6)).map fun k => ixr rows ((ixv L (3 + k)).fmod rows.length)) (by rw [List.length_map, rangeI_len]; omega)
  have mrow : ∀ r ∈ (rangeI 0 (1 + d0.fmod 6)).map fun k => ixr rows ((ixv L (3 + k)).fmod rows.length), Asc n r := fun r q => by
    obtain ⟨j, hj, rfl⟩ := List.mem_map.mp q
    exact (hr _).mp (ixr_mem (f1 _).1 (f1 _).2)
  have nrow : ((rangeI 0 (1 + d0.fmod 6)).map fun k => ixr rows ((ixv L (3 + k)).fmod rows.length)) ≠ [] := fun z => by
    have := congrArg List.length z
    rw [List.length_map, rangeI_len] at this
    simp at this
    omega
  rw [List.length_map, rangeI_len] at hL
  refine ⟨ks, ?_, ⟨fun k hk => mrow k ((h6 k).mp hk).1, hA, fun z => ?_, by omega⟩⟩
  · simp [g_law_any_lots_k79, e1, e2, e3, oMod_int, e5]
    rw [lcR_mem (g := fun k => tu (ixr rows ((ixv L (3 + k)).fmod rows.length)))]
    · simp [e6]
    · intro k hk
      obtain ⟨k1, k2⟩ := mem_rangeI.mp hk
      have n0 : (rows.length : Int) ≠ 0 := by omega
      simp [ix_li (L := L) (i := 3 + k) (by omega) (by omega), oMod_int n0, ix_lt (f1 _).1 (f1 _).2]
  · obtain ⟨x, x1, x2⟩ := top_some mrow nrow
    have := (h6 x).mpr ⟨x1, x2⟩
    rw [z] at this
    cases this
theorem v_lots79 (c n : Int) (h0 : 0 ≤ n) (h1 : n ≤ 9) : ∃ ks : List (List Int), m_law_lots_k79 [.int c, .int n] = .ok (tt ks) ∧ Good n ks := by
  show ∃ ks : List (List Int), endR (g_law_lots_k79 [some (.d (.int c)), some (.d (.int n)), none]) = _ ∧ _
  obtain ⟨L, e1, hL, bL⟩ := v_draws c 2 (by decide) (by decide)
  have hL2 : L.length = 2 := hL
  have e31 := ix_li (L := L) (i := 1) (by decide) (by omega)
  by_cases q : ((ixv L 1).fdiv 8).fmod 2 = 0
  · obtain ⟨ks, w1, w2⟩ := v_smooth3 c n h0 h1
    exact ⟨ks, by simp [g_law_lots_k79, e1, e31, oMod_int, oDiv_lit, q, w1], w2.good⟩
  · obtain ⟨ks, w1, w2⟩ := v_any79 c n h0 (by omega)
    exact ⟨ks, by simp [g_law_lots_k79, e1, e31, oMod_int, oDiv_lit, q, w1], w2⟩
end LW
set_option Elab.async false
set_option maxRecDepth 100000
set_option linter.all false
set_option maxHeartbeats 2000000
set_option Elab.async false
set_option maxRecDepth 100000
set_option linter.all false
set_option maxHeartbeats 2000000
set_option Elab.async false
set_option linter.all false
set_option maxRecDepth 100000
set_option maxHeartbeats 4000000
set_option Elab.async false
set_option maxRecDepth 100000
set_option linter.all false
set_option maxHeartbeats 2000000
set_option Elab.async false
set_option maxRecDepth 100000
set_option linter.all false
set_option maxHeartbeats 2000000
set_option Elab.async false
set_option maxRecDepth 100000
set_option linter.all false
set_option maxHeartbeats 2000000
namespace LW
open PySem PySem.Spec PyProof.Rows L2 PD
def cst87 (g : Bool) (c u : Int) : Int := if g = true then c * 1000000000000000000000000000000 + u else c
theorem v_costs87 (c n m : Int) (g : Bool) (h0 : 0 ≤ n) (h1 : n ≤ 15) (h2 : 0 ≤ m) (h3 : m ≤ 50) : ∃ C : List (List Int), m_law_costs_k79 [.int c, .int n, .int m, .bool g] = .ok (tt C) ∧ Rows n m C := by
  show ∃ C : List (List Int), endR (g_law_costs_k79 [some (.d (.int c)), some (.d (.int n)), some (.d (.int m)), some (.d (.bool g)), none, none, none, none, none, none, none]) = _ ∧ _
  have hnm0 : 0 ≤ n * m := Int.mul_nonneg h0 h2
  have hnm : n * m ≤ 750 := by
    have a : n * m ≤ 15 * m := Int.mul_le_mul_of_nonneg_right h1 h2
    omega
  obtain ⟨L, e1, hL, bL⟩ := v_draws c (n * m + 1) (by omega) (by omega)
  have hLn : (L.length : Int) = n * m + 1 := by rw [hL]; omega
  have emul : oMul (.int n) (.int m) = .ok (.int (n * m)) := oMul_l (by omega) (by omega)
  have row : ∀ (x : Int) (R : List (List Int)) (u : Int) (o10 : Option Sl), 0 ≤ x → x < n → ∀ c0 : Int, -3 ≤ c0 → c0 ≤ 5 → ∃ (r : List Int) (c1 : Int) (o10' : Option Sl), forGo (.nm 10) b_law_costs_k79_1 ((rangeI 0 m).map .int) [some (.d (.int c)), some (.d (.int n)), some (.d (.int m)), some (.d (.bool g)), some (.d (li L)), some (.own (R.map tu)), some (.d (.int x)), some (.d (.int c0)), some (.d (.int u)), some (.own []), o10] =
      .nx [some (.d (.int c)), some (.d (.int n)), some (.d (.int m)), some (.d (.bool g)), some (.d (li L)), some (.own (R.map tu)), some (.d (.int x)), some (.d (.int c1)), some (.d (.int u)), some (.own (r.map .int)), o10'] ∧ (r.length : Int) = m ∧ r.Pairwise (· ≤ ·) := by
    intro x R u o10 x0 x1 c0 c00 c05
    have hxm0 : 0 ≤ x * m := Int.mul_nonneg x0 h2
    have hxm : x * m + m ≤ n * m := by
      have a : (x + 1) * m ≤ n * m := Int.mul_le_mul_of_nonneg_right (by omega) h2
      rw [Int.add_mul, Int.one_mul] at a
      exact a
    have exm : oMul (.int x) (.int m) = .ok (.int (x * m)) := oMul_l (by omega) (by omega)
    have key := forGo_inv (i := 10) (g := b_law_costs_k79_1) (enc := PyData.int) (fun xs ρ => ∃ (k c1 : Int) (r : List Int) (o10 : Option Sl), ρ = [some (.d (.int c)), some (.d (.int n)), some (.d (.int m)), some (.d (.bool g)), some (.d (li L)), some (.own (R.map tu)), some (.d (.int x)), some (.d (.int c1)), some (.d (.int u)), some (.own (r.map .int)), o10] ∧ xs = rangeI k m ∧ 0 ≤ k ∧ k ≤ m ∧ (r.length : Int) = k ∧ -3 ≤ c1 ∧ c1 ≤ 5 + 8 * k ∧ r.Pairwise (· ≤ ·) ∧ ∀ z ∈ r, z ≤ cst87 g c1 u) (by
      rintro y xs ρ ⟨k, c1, r, o10, rfl, hx, k0, k1, hr, b0, b1, hp, hb⟩
      obtain ⟨hk1, rfl, rfl⟩ := rangeI_inv hx
      have hs : r.length < sizeLine := line_lt (by omega)
      have ex := ix_li (L := L) (i := x * m + y) (by omega) (by omega)
      have m1 := fmod_lo (ixv L (x * m + y)) (b := 6) (by decide)
      have m2 := fmod_hi (ixv L (x * m + y)) (b := 6) (by decide)
      have e6 := ix_tu (L := [0, 1, 3, 0, 8, 2]) (i := (ixv L (x * m + y)).fmod 6) m1 (by simpa using m2)
      have m6 : ixv [0, 1, 3, 0, 8, 2] ((ixv L (x * m + y)).fmod 6) ∈ [0, 1, 3, 0, 8, 2] := ixv_mem m1 (by simpa using m2)
      generalize ixv [0, 1, 3, 0, 8, 2] ((ixv L (x * m + y)).fmod 6) = v at e6 m6
      have hv : 0 ≤ v ∧ v ≤ 8 := by
        simp only [List.mem_cons, List.not_mem_nil, or_false] at m6
        omega
      have next : ∃ c2 : Int, c1 ≤ c2 ∧ c2 ≤ c1 + 8 ∧ (if 0 < y then c1 + v else c1) = c2 := ⟨_, by split <;> omega, by split <;> omega, rfl⟩
      obtain ⟨c2, n1, n2, n3⟩ := next
      have step : ∀ z ∈ r, z ≤ cst87 g c2 u := fun z hz => by
        have h := hb z hz
        refine Int.le_trans h ?_
        unfold cst87
        cases g with
        | false => simpa using n1
        | true =>
          have : c1 * 1000000000000000000000000000000 ≤ c2 * 1000000000000000000000000000000 := Int.mul_le_mul_of_nonneg_right n1 (by decide)
          simp
          omega
      refine ⟨[some (.d (.int c)), some (.d (.int n)), some (.d (.int m)), some (.d (.bool g)), some (.d (li L)), some (.own (R.map tu)), some (.d (.int x)), some (.d (.int c2)), some (.d (.int u)), some (.own ((r ++ [cst87 g c2 u]).map .int)), some (.d (.int y))], ?_, y + 1, c2, _, _, rfl, rfl, by omega, by omega, by simp; omega, by omega, by omega, List.pairwise_append.mpr ⟨hp, List.pairwise_singleton _ _, fun a ha b hb2 => by rw [List.mem_singleton.mp hb2]; exact step a ha⟩, fun z hz => by
        rcases List.mem_append.mp hz with h | h
        · exact step z h
        · rw [List.mem_singleton.mp h]; exact Int.le_refl _⟩
      have eb : oMul (.int c2) (.int 1000000000000000000000000000000) = .ok (.int (c2 * 1000000000000000000000000000000)) := oMul_l (by omega) (by omega)
      by_cases hy : 0 < y
      · rw [if_pos hy] at n3
        cases g <;> simp [b_law_costs_k79_1, ex, exm, oMod_int, e6, hy, n3, eb, hs, cst87]
      · rw [if_neg hy] at n3
        subst n3
        cases g <;> simp [b_law_costs_k79_1, ex, exm, oMod_int, e6, hy, eb, hs, cst87])
    obtain ⟨ρ', e, k, c1, r, o10', rfl, hx, k0, k1, hr, _, _, hp, _⟩ := key (rangeI 0 m) [some (.d (.int c)), some (.d (.int n)), some (.d (.int m)), some (.d (.bool g)), some (.d (li L)), some (.own (R.map tu)), some (.d (.int x)), some (.d (.int c0)), some (.d (.int u)), some (.own []), o10] ⟨0, c0, [], o10, rfl, rfl, by omega, h2, rfl, by omega, by omega, .nil, by simp⟩
    have ek : k = m := by
      by_cases h : k < m
      · rw [rangeI_cons h] at hx; cases hx
      · omega
    exact ⟨r, c1, o10', e, by omega, hp⟩
  have key := forGo_inv (i := 6) (g := b_law_costs_k79_2) (enc := PyData.int) (fun xs ρ => ∃ (k : Int) (R : List (List Int)) (o6 o7 o8 o9 o10 : Option Sl), ρ = [some (.d (.int c)), some (.d (.int n)), some (.d (.int m)), some (.d (.bool g)), some (.d (li L)), some (.own (R.map tu)), o6, o7, o8, o9, o10] ∧ xs = rangeI k n ∧ 0 ≤ k ∧ k ≤ n ∧ Rows k m R) (by
    rintro x xs ρ ⟨k, R, o6, o7, o8, o9, o10, rfl, hx, k0, k1, hR⟩
    obtain ⟨hk1, rfl, rfl⟩ := rangeI_inv hx
    have hs : R.length < sizeLine := line_lt (by have := hR.1; omega)
    have hxm0 : 0 ≤ x * m := Int.mul_nonneg k0 h2
    have hxm : x * m + m ≤ n * m := by
      have a : (x + 1) * m ≤ n * m := Int.mul_le_mul_of_nonneg_right (by omega) h2
      rw [Int.add_mul, Int.one_mul] at a
      exact a
    have exm : oMul (.int x) (.int m) = .ok (.int (x * m)) := oMul_l (by omega) (by omega)
    have ex := ix_li (L := L) (i := x * m) (by omega) (by omega)
    have m1 := fmod_lo (ixv L (x * m)) (b := 9) (by decide)
    have m2 := fmod_hi (ixv L (x * m)) (b := 9) (by decide)
    generalize hu : (ixv L (x * m)).fmod 9 = u at m1 m2
    obtain ⟨r, c1, o10', e, hr, hp⟩ := row x R (((ixv L (x * m)).fdiv 9).fmod 3) o10 k0 hk1 (u - 3) (by omega) (by omega)
    refine ⟨[some (.d (.int c)), some (.d (.int n)), some (.d (.int m)), some (.d (.bool g)), some (.d (li L)), some (.own ((R ++ [r]).map tu)), some (.d (.int x)), some (.d (.int c1)), some (.d (.int (((ixv L (x * m)).fdiv 9).fmod 3))), some (.d (li r)), o10'], ?_, x + 1, _, _, _, _, _, _, rfl, rfl, by omega, by omega, by have := hR.1; simp; omega, fun y hy => ?_⟩
    · simp [b_law_costs_k79_2, exm, ex, oMod_int, oDiv_lit, hu, rngA1_ok (n := m) (by omega) (by omega), e, hs]
    · rcases List.mem_append.mp hy with h | h
      · exact hR.2 y h
      · rw [List.mem_singleton.mp h]; exact ⟨hr, hp⟩)
  obtain ⟨ρ', e, k, R, o6, o7, o8, o9, o10, rfl, hx, k0, k1, hR⟩ := key (rangeI 0 n) [some (.d (.int c)), some (.d (.int n)), some (.d (.int m)), some (.d (.bool g)), some (.d (li L)), some (.own []), none, none, none, none, none] ⟨0, [], none, none, none, none, none, rfl, rfl, by omega, h0, rfl, by simp⟩
  have ek : k = n := by
    by_cases h : k < n
    · rw [rangeI_cons h] at hx; cases hx
    · omega
  subst ek
  refine ⟨R, ?_, hR⟩
  simp [g_law_costs_k79, emul, e1, rngA1_ok (n := k) (by omega) (by omega), e]
end LW
set_option Elab.async false
set_option maxRecDepth 100000
set_option linter.all false
set_option maxHeartbeats 2000000
set_option Elab.async false
set_option maxRecDepth 100000
set_option linter.all false
set_option maxHeartbeats 2000000
set_option Elab.async false
set_option maxRecDepth 100000
set_option linter.all false
set_option maxHeartbeats 2000000
set_option Elab.async false
set_option maxRecDepth 100000
set_option linter.all false
set_option maxHeartbeats 2000000
set_option Elab.async false
set_option maxRecDepth 100000
set_option linter.all false
set_option maxHeartbeats 2000000
set_option Elab.async false
set_option maxRecDepth 100000
set_option linter.all false
set_option maxHeartbeats 2000000
set_option Elab.async false
set_option maxRecDepth 100000
set_option linter.all false
set_option maxHeartbeats 2000000
namespace LW
open PySem PySem.Spec PyProof.Rows L2 PD
theorem few16 {ps : List Pl} (h : ∀ p ∈ ps, p.ls.length ≤ 16) (hl : ps.length ≤ 3) : Few ps 16 :=
  ⟨by decide, h, Nat.le_trans (Nat.pow_le_pow_right (n := 16) (by decide) hl) (by decide)⟩
theorem v_game86' (ns : List Int) (f : Int) (hf : 0 ≤ f) : ∃ (n : Int) (ps : List Pl), m_law_game_k86 [li ns, .int f, .bool false] = .ok (gmD n ps) ∧ Game n ps ∧ Few ps 16 ∧ ps.length ≤ 3 ∧ n ≤ 4 := by
  show ∃ (n : Int) (ps : List Pl), endR (g_law_game_k86 [some (.d (li ns)), some (.d (.int f)), some (.d (.bool false)), none, none, none, none, none, none, none, none, none]) = _ ∧ _
  obtain ⟨c0, e0⟩ := v_cell ns f hf
  obtain ⟨L, eL, hL, bL⟩ := v_draws c0 4 (by decide) (by decide)
  have hL2 : L.length = 4 := hL
  have e30 := ix_li (L := L) (i := 0) (by decide) (by omega)
  have e31 := ix_li (L := L) (i := 1) (by decide) (by omega)
  have e32 := ix_li (L := L) (i := 2) (by decide) (by omega)
  have e33 := ix_li (L := L) (i := 3) (by decide) (by omega)
  have f8a := fmod_lo (ixv L 0) (b := 8) (by decide)
  have f8b := fmod_hi (ixv L 0) (b := 8) (by decide)
  have e8 := ix_tu (L := [1, 2, 2, 2, 3, 3, 2, 0]) (i := (ixv L 0).fmod 8) f8a (by simpa using f8b)
  have m8 : ixv [1, 2, 2, 2, 3, 3, 2, 0] ((ixv L 0).fmod 8) ∈ [1, 2, 2, 2, 3, 3, 2, 0] := ixv_mem f8a (by simpa using f8b)
  generalize ixv [1, 2, 2, 2, 3, 3, 2, 0] ((ixv L 0).fmod 8) = T at e8 m8
  have hT : 0 ≤ T ∧ T ≤ 3 := by
    simp only [List.mem_cons, List.not_mem_nil, or_false] at m8
    omega
  have g8a := fmod_lo (ixv L 1) (b := 8) (by decide)
  have g8b := fmod_hi (ixv L 1) (b := 8) (by decide)
  have e9 := ix_tu (L := [3, 4, 3, 2, 3, 1, 4, 0]) (i := (ixv L 1).fmod 8) g8a (by simpa using g8b)
  have m9 : ixv [3, 4, 3, 2, 3, 1, 4, 0] ((ixv L 1).fmod 8) ∈ [3, 4, 3, 2, 3, 1, 4, 0] := ixv_mem g8a (by simpa using g8b)
  generalize ixv [3, 4, 3, 2, 3, 1, 4, 0] ((ixv L 1).fmod 8) = n at e9 m9
  have hn : 0 ≤ n ∧ n ≤ 4 := by
    simp only [List.mem_cons, List.not_mem_nil, or_false] at m9
    omega
  have h2a := fmod_lo (ixv L 2) (b := 2) (by decide)
  have h2b := fmod_hi (ixv L 2) (b := 2) (by decide)
  generalize hu : (ixv L 2).fmod 2 = u at h2a h2b
  have key := forGo_inv (i := 7) (g := b_law_game_k86_1) (enc := PyData.int) (fun xs ρ => ∃ (k : Int) (ps : List Pl) (o7 o8 o9 o10 o11 : Option Sl), ρ = [some (.d (li ns)), some (.d (.int f)), some (.d (.bool false)), some (.d (li L)), some (.d (.int T)), some (.d (.int n)), some (.own (ps.map (tkD n))), o7, o8, o9, o10, o11] ∧ xs = rangeI k T ∧ 0 ≤ k ∧ k ≤ T ∧ (ps.length : Int) = k ∧ ∀ p ∈ ps, Tk n (T + u) false p) (by
    rintro x xs ρ ⟨k, ps, o7, o8, o9, o10, o11, rfl, hx, k0, k1, hl, hp⟩
    obtain ⟨hk1, rfl, rfl⟩ := rangeI_inv hx
    have hs : ps.length < sizeLine := line_lt (by omega)
    have om : oMul (.int 2) (.int x) = .ok (.int (2 * x)) := oMul_l (by decide) (by decide)
    obtain ⟨c1, e1⟩ := v_cell ns (f + 1 + 2 * x) (by omega)
    obtain ⟨c2, e2⟩ := v_cell ns (f + 2 + 2 * x) (by omega)
    obtain ⟨ls, e3, g3⟩ := v_lots79 c1 n hn.1 (by omega)
    obtain ⟨C, eC, hC⟩ := v_costs87 c2 n (T + u) ((ixv L 3).fmod 8 == 1) hn.1 (by omega) (by omega) (by omega)
    refine ⟨[some (.d (li ns)), some (.d (.int f)), some (.d (.bool false)), some (.d (li L)), some (.d (.int T)), some (.d (.int n)), some (.own ((ps ++ [(⟨ls, C, 1⟩ : Pl)]).map (tkD n))), some (.d (.int x)), some (.d (.int c1)), some (.d (tt ls)), some (.d (.int (T + u))), some (.d (tt C))], ?_, x + 1, ps ++ [(⟨ls, C, 1⟩ : Pl)], _, _, _, _, _, rfl, rfl, by omega, by omega, by simp; omega, fun p hp2 => ?_⟩
    · have et : PyData.tuple [.tuple [.int n, tt ls], tt C] = tkD n ⟨ls, C, 1⟩ := rfl
      generalize hgb : ((ixv L 3).fmod 8 == 1) = gb at *
      rw [List.map_append, List.map_cons, List.map_nil]
      generalize tkD n (⟨ls, C, 1⟩ : Pl) = Z at et ⊢
      simp [b_law_game_k86_1, om, e1, e2, e3, e32, e33, oMod_int, hu, hgb, eC, et, hs]
    · rcases List.mem_append.mp hp2 with h | h
      · exact hp p h
      · rw [List.mem_singleton.mp h]; exact ⟨g3, hC, rfl, fun z => by cases z⟩)
  obtain ⟨ρ', e, k, ps, o7, o8, o9, o10, o11, rfl, hx, k0, k1, hl, hp⟩ := key (rangeI 0 T) [some (.d (li ns)), some (.d (.int f)), some (.d (.bool false)), some (.d (li L)), some (.d (.int T)), some (.d (.int n)), some (.own []), none, none, none, none, none] ⟨0, [], none, none, none, none, none, rfl, rfl, by omega, hT.1, rfl, by simp⟩
  have ek : k = T := by
    by_cases h : k < T
    · rw [rangeI_cons h] at hx; cases hx
    · omega
  refine ⟨n, ps, ?_, tk_game hn.1 (by omega) (by omega) hp, few16 (fun p h => good_few hn.1 hn.2 (hp p h).good) (by omega), by omega, hn.2⟩
  simp [g_law_game_k86, e0, eL, e30, e31, oMod_int, e8, e9, rngA1_ok (n := T) (by omega) (by omega), e, -List.map_map]
  rfl
end LW
set_option Elab.async false
set_option linter.all false
set_option maxRecDepth 100000
set_option maxHeartbeats 1000000
namespace PD
open PySem PySem.Spec PyProof.Rows L2
def seqOO (o : OutO) (h : SO) : OutO := match o with
  | .nx ρ S => h ρ S
  | o => o
@[simp] theorem seqOO_nx (ρ : RhoO) (S : Store) (h : SO) : seqOO (.nx ρ S) h = h ρ S := rfl
@[simp] theorem seqOO_rt (d : Vl) (S : Store) (h : SO) : seqOO (.rt d S) h = .rt d S := rfl
@[simp] theorem seqOO_exc (e : Ex) (ρ : RhoO) (S : Store) (h : SO) : seqOO (.exc e ρ S) h = .exc e ρ S := rfl
@[simp] theorem ev_sSeq (g h : SO) (ρ : RhoO) (S : Store) : sSeq g h ρ S = seqOO (g ρ S) h := by unfold sSeq seqOO; cases g ρ S <;> rfl
def ooO (x : Option RhoO) (S : Store) : OutO := match x with
  | some ρ => .nx ρ S
  | none => .bad
@[simp] theorem ooO_some (ρ : RhoO) (S : Store) : ooO (some ρ) S = .nx ρ S := rfl
@[simp] theorem ev_sSet (f : EO) (t : Tg) (ρ : RhoO) (S : Store) : sSet f t ρ S = oRO (f ρ S) ρ fun x S1 => ooO (t.setO x ρ) S1 := by
  unfold sSet
  congr 1
@[simp] theorem oRO_exc {α : Type} (e : Ex) (S : Store) (ρ : RhoO) (k : α → Store → OutO) : oRO (.exc e S) ρ k = .exc e ρ S := rfl
@[simp] theorem ev_sSkip (ρ : RhoO) (S : Store) : sSkip ρ S = .nx ρ S := rfl
@[simp] theorem ev_sRet (f : EO) (ρ : RhoO) (S : Store) : sRet f ρ S = oRO (f ρ S) ρ .rt := rfl
@[simp] theorem ev_sRetN (ρ : RhoO) (S : Store) : sRetN ρ S = .rt (.p .none) S := rfl
@[simp] theorem ev_sExpr (f : EO) (ρ : RhoO) (S : Store) : sExpr f ρ S = oRO (f ρ S) ρ fun _ S1 => .nx ρ S1 := rfl
@[simp] theorem ev_sIf (c : EOB) (g h : SO) (ρ : RhoO) (S : Store) : sIf c g h ρ S = oRO (c ρ S) ρ fun b S1 => if b = true then g ρ S1 else h ρ S1 := rfl
@[simp] theorem ev_sFor (fi : EOI) (t : Tg) (g : SO) (ρ : RhoO) (S : Store) : sFor fi t g ρ S = oRO (fi ρ S) ρ fun ds S1 => sForGo t g ds ρ S1 := rfl
def mskV (x : R PyData) (S : Store) : RO Vl := match x with
  | .ok d => .ok (.p d) S
  | .exc e => .exc e S
  | .bad => .bad
@[simp] theorem mskV_ok (d : PyData) (S : Store) : mskV (.ok d) S = .ok (.p d) S := rfl
@[simp] theorem mskV_exc (e : Ex) (S : Store) : mskV (.exc e) S = .exc e S := rfl
@[simp] theorem ev_oMask (f : Dn) (ρ : RhoO) (S : Store) : oMask f ρ S = mskV (f (maskR ρ)) S := by unfold oMask mskV; cases f (maskR ρ) <;> rfl
def mskI {α : Type} (x : R α) (S : Store) : RO α := match x with
  | .ok d => .ok d S
  | .exc e => .exc e S
  | .bad => .bad
@[simp] theorem mskI_ok {α : Type} (d : α) (S : Store) : mskI (.ok d) S = .ok d S := rfl
@[simp] theorem mskI_exc {α : Type} (e : Ex) (S : Store) : mskI (.exc e : R α) S = .exc e S := rfl
@[simp] theorem ev_oMaskI (f : DnL) (ρ : RhoO) (S : Store) : oMaskI f ρ S = mskI (f (maskR ρ)) S := by unfold oMaskI mskI; cases f (maskR ρ) <;> rfl
@[simp] theorem ev_oMaskB (f : DnB) (ρ : RhoO) (S : Store) : oMaskB f ρ S = mskI (f (maskR ρ)) S := by unfold oMaskB mskI; cases f (maskR ρ) <;> rfl
@[simp] theorem maskR_nil : maskR [] = [] := rfl
@[simp] theorem maskR_p (d : PyData) (ρ : RhoO) : maskR (some (.p d) :: ρ) = some (.d d) :: maskR ρ := rfl
@[simp] theorem maskR_rf (l : Nat) (ρ : RhoO) : maskR (some (.rf l) :: ρ) = none :: maskR ρ := rfl
@[simp] theorem maskR_tp (l : List Vl) (ρ : RhoO) : maskR (some (.tp l) :: ρ) = none :: maskR ρ := rfl
@[simp] theorem maskR_none (ρ : RhoO) : maskR (none :: ρ) = none :: maskR ρ := rfl
@[simp] theorem snapR_nil (S : Store) : snapR S [] = [] := rfl
@[simp] theorem snapR_p (S : Store) (d : PyData) (ρ : RhoO) : snapR S (some (.p d) :: ρ) = some (.d d) :: snapR S ρ := rfl
@[simp] theorem snapR_none (S : Store) (ρ : RhoO) : snapR S (none :: ρ) = none :: snapR S ρ := rfl
theorem snapR_of {S : Store} {x : Vl} {ρ : RhoO} {d : PyData} (h : snapV 6 S x = some d) : snapR S (some x :: ρ) = some (.d d) :: snapR S ρ := by
  unfold snapR
  rw [List.map_cons]
  dsimp only
  rw [h]
def varO (x : Option (Option Vl)) (S : Store) : RO Vl := match x with
  | some (some x) => .ok x S
  | _ => .bad
@[simp] theorem varO_some (x : Vl) (S : Store) : varO (some (some x)) S = .ok x S := rfl
@[simp] theorem ev_oVar (i : Nat) (ρ : RhoO) (S : Store) : oVar i ρ S = varO ρ[i]? S := by unfold oVar varO; rfl
def okO (x : Option Vl) (S : Store) : RO Vl := match x with
  | some y => .ok y S
  | none => .bad
@[simp] theorem okO_some (x : Vl) (S : Store) : okO (some x) S = .ok x S := rfl
@[simp] theorem ev_oFld (C : Addr) (f : Str) (g : EO) (ρ : RhoO) (S : Store) : oFld C f g ρ S = (g ρ S).bind fun x S1 => okO (fldV C f x S1) S1 := by
  unfold oFld okO
  congr 1
@[simp] theorem ev_oIxO (g h : EO) (ρ : RhoO) (S : Store) : oIxO g h ρ S = (g ρ S).bind fun x S1 => (h ρ S1).bind fun y S2 => okO (ixV x y S2) S2 := by
  unfold oIxO okO
  congr 1
@[simp] theorem ev_oNil (ρ : RhoO) (S : Store) : oNil ρ S = .ok [] S := rfl
@[simp] theorem ev_oCons (g : EO) (h : EOL) (ρ : RhoO) (S : Store) : oCons g h ρ S = (g ρ S).bind fun x S1 => (h ρ S1).bind fun xs S2 => .ok (x :: xs) S2 := rfl
@[simp] theorem ev_oArg (m : MO) (g : EOL) (ρ : RhoO) (S : Store) : oArg m g ρ S = (g ρ S).bind m := rfl
@[simp] theorem ev_oNewLL (fi : EOI) (ρ : RhoO) (S : Store) : oNewLL fi ρ S = (fi ρ S).bind fun ds S1 => .ok (.rf (S1.length + ds.length)) (S1 ++ List.replicate ds.length (.lst []) ++ [.lst ((List.range ds.length).map fun k => .rf (S1.length + k))]) := rfl
@[simp] theorem setO_nm (i : Nat) (x : Vl) (ρ : RhoO) : Tg.setO (.nm i) x ρ = some (ρ.set i (some x)) := by unfold Tg.setO; rfl
@[simp] theorem setO_tp (ts : List Tg) (ds : List PyData) (ρ : RhoO) : Tg.setO (.tp ts) (.p (.tuple ds)) ρ = Tg.setsO ts (ds.map .p) ρ := by rw [Tg.setO]
@[simp] theorem setsO_nil (ρ : RhoO) : Tg.setsO [] [] ρ = some ρ := by rw [Tg.setsO]
@[simp] theorem setsO_cons (t : Tg) (ts : List Tg) (x : Vl) (xs : List Vl) (ρ : RhoO) : Tg.setsO (t :: ts) (x :: xs) ρ = (Tg.setO t x ρ).bind fun ρ' => Tg.setsO ts xs ρ' := by rw [Tg.setsO]
theorem mapO_p {n : Nat} {S : Store} : ∀ ds : List PyData, mapO (snapV n S) (ds.map .p) = some ds
  | [] => rfl
  | d :: ds => by
    have e : snapV n S (.p d) = some d := by cases n <;> rfl
    rw [List.map_cons, mapO, e, mapO_p ds]
end PD
set_option Elab.async false
set_option linter.all false
set_option maxRecDepth 100000
set_option maxHeartbeats 1000000
set_option Elab.async false
set_option linter.all false
set_option maxRecDepth 100000
set_option maxHeartbeats 1000000
namespace LW
open PySem PySem.Spec PyProof.Rows L2 PD
abbrev Stp := List (Int × Option (Int × Int))
end LW
set_option Elab.async false
set_option linter.all false
set_option maxRecDepth 100000
set_option maxHeartbeats 1000000
set_option Elab.async false
set_option linter.all false
set_option maxRecDepth 100000
set_option maxHeartbeats 1000000
set_option Elab.async false
set_option linter.all false
set_option maxRecDepth 100000
set_option maxHeartbeats 1000000
namespace PD
open PySem PySem.Spec PyProof.Rows L2
end PD
set_option Elab.async false
set_option linter.all false
set_option maxRecDepth 100000
set_option maxHeartbeats 4000000
set_option Elab.async false
set_option linter.all false
set_option maxRecDepth 100000
set_option maxHeartbeats 4000000
set_option Elab.async false
set_option linter.all false
set_option maxRecDepth 100000
set_option maxHeartbeats 4000000
set_option Elab.async false
set_option maxRecDepth 100000
set_option linter.all false
set_option maxHeartbeats 2000000
set_option Elab.async false
set_option linter.all false
set_option maxRecDepth 100000
set_option maxHeartbeats 4000000
set_option Elab.async false
set_option maxRecDepth 100000
set_option linter.all false
set_option maxHeartbeats 2000000
namespace LW
open PySem PySem.Spec PyProof.Rows L2 PD
def Bst (S : Int → Int → Prop) (key : Int → Int → Int) : Option (Int × Int) → Prop
  | none => ∀ x t, S x t → 0 ≤ key x t
  | some p => S p.1 p.2 ∧ key p.1 p.2 < 0 ∧ ∀ x t, S x t → key p.1 p.2 < key x t ∨ (key p.1 p.2 = key x t ∧ (p.1 < x ∨ (p.1 = x ∧ p.2 ≤ t)))
def gainB (key : Int → Int → Int) : Option (Int × Int) → Int
  | none => 0
  | some p => key p.1 p.2
theorem Bst.congr {S S' : Int → Int → Prop} {key : Int → Int → Int} {o : Option (Int × Int)} (h : Bst S key o) (e : ∀ x t, S x t ↔ S' x t) : Bst S' key o := by
  have : S = S' := funext fun x => funext fun t => propext (e x t)
  rw [← this]; exact h
theorem Bst.step {S S' : Int → Int → Prop} {key : Int → Int → Int} {o : Option (Int × Int)} {x t : Int} (h : Bst S key o) (hs : ∀ a b, S a b → a < x ∨ (a = x ∧ b ≤ t)) (e : ∀ a b, S' a b ↔ S a b ∨ (a = x ∧ b = t)) : Bst S' key (if key x t < gainB key o then some (x, t) else o) := by
  cases o with
  | none =>
    by_cases q : key x t < gainB key none
    · rw [if_pos q]
      have q : key x t < 0 := q
      refine ⟨(e x t).mpr (.inr ⟨rfl, rfl⟩), q, fun a b hab => ?_⟩
      rcases (e a b).mp hab with z | ⟨rfl, rfl⟩
      · exact .inl (by have := h a b z; show key x t < key a b; omega)
      · exact .inr ⟨rfl, .inr ⟨rfl, Int.le_refl _⟩⟩
    · rw [if_neg q]
      have q : ¬ key x t < 0 := q
      intro a b hab
      rcases (e a b).mp hab with z | ⟨rfl, rfl⟩
      · exact h a b z
      · omega
  | some p =>
    obtain ⟨h1, h2, h3⟩ := h
    by_cases q : key x t < gainB key (some p)
    · rw [if_pos q]
      have q : key x t < key p.1 p.2 := q
      refine ⟨(e x t).mpr (.inr ⟨rfl, rfl⟩), by show key x t < 0; omega, fun a b hab => ?_⟩
      rcases (e a b).mp hab with z | ⟨rfl, rfl⟩
      · refine .inl ?_
        show key x t < key a b
        rcases h3 a b z with y | y <;> omega
      · exact .inr ⟨rfl, .inr ⟨rfl, Int.le_refl _⟩⟩
    · rw [if_neg q]
      have q : ¬ key x t < key p.1 p.2 := q
      refine ⟨(e _ _).mpr (.inl h1), h2, fun a b hab => ?_⟩
      rcases (e a b).mp hab with z | ⟨rfl, rfl⟩
      · exact h3 a b z
      · by_cases y : key p.1 p.2 < key a b
        · exact .inl y
        · exact .inr ⟨by omega, hs _ _ h1⟩
theorem Bst.uniq {S : Int → Int → Prop} {key : Int → Int → Int} {o o' : Option (Int × Int)} (h : Bst S key o) (h' : Bst S key o') : o = o' := by
  cases o with
  | none =>
    cases o' with
    | none => rfl
    | some p => have := h p.1 p.2 h'.1; have := h'.2.1; omega
  | some p =>
    cases o' with
    | none => have := h' p.1 p.2 h.1; have := h.2.1; omega
    | some q =>
      obtain ⟨a1, a2, a3⟩ := h
      obtain ⟨b1, b2, b3⟩ := h'
      have c := a3 _ _ b1
      have d := b3 _ _ a1
      have : p.1 = q.1 ∧ p.2 = q.2 := by omega
      congr 1
      exact Prod.ext this.1 this.2
end LW
set_option Elab.async false
set_option linter.all false
set_option maxRecDepth 100000
set_option maxHeartbeats 1000000
namespace LW
open PySem PySem.Spec PyProof.Rows L2 PD
section
variable {n : Int} {ps : List Pl} {ch : List (List Int)}
theorem rng_len (n : Int) : (rangeI 0 n).length = n.toNat := by
  rw [rangeI_len]
  congr 1
  omega
end
end LW
set_option Elab.async false
set_option linter.all false
set_option maxRecDepth 100000
set_option maxHeartbeats 4000000
set_option Elab.async false
set_option linter.all false
set_option maxRecDepth 100000
set_option maxHeartbeats 4000000
set_option Elab.async false
set_option linter.all false
set_option maxRecDepth 100000
set_option maxHeartbeats 4000000
set_option Elab.async false
set_option linter.all false
set_option maxRecDepth 100000
set_option maxHeartbeats 4000000
set_option Elab.async false
set_option linter.all false
set_option maxRecDepth 100000
set_option maxHeartbeats 4000000
set_option Elab.async false
set_option linter.all false
set_option maxRecDepth 100000
set_option maxHeartbeats 4000000
namespace LW
open PySem PySem.Spec PyProof.Rows L2 PD
section
variable {n : Int} {ps : List Pl} {C ch dh : List (List Int)}
def cells (n : Int) (T : Nat) (C : List (List Int)) : List Int := (rangeI 0 n).flatMap fun x => (ixr C x).take T
end
end LW
set_option Elab.async false
set_option linter.all false
set_option maxRecDepth 100000
set_option maxHeartbeats 4000000
namespace LW
open PySem PySem.Spec PyProof.Rows L2 PD
theorem cons_of {f : Dn} {g : DnL} {ρ : Rho} {a : PyData} {as : List PyData} (h1 : f ρ = .ok a) (h2 : g ρ = .ok as) : dCons f g ρ = .ok (a :: as) := by rw [ev_cons, h1, R.bind_ok, h2, R.bind_ok]
theorem arg_of {m : List PyData → PD.R PyData} {g : DnL} {ρ : Rho} {as : List PyData} (h : g ρ = .ok as) : dArg m g ρ = m as := by rw [ev_arg, h, R.bind_ok]
theorem two_of {u : PyData → PyData → PD.R PyData} {f g : Dn} {ρ : Rho} {a b : PyData} (h1 : f ρ = .ok a) (h2 : g ρ = .ok b) : dTwo u f g ρ = u a b := by rw [ev_two, h1, R.bind_ok, h2, R.bind_ok]
theorem one_of {u : PyData → PD.R PyData} {f : Dn} {ρ : Rho} {a : PyData} (h1 : f ρ = .ok a) : dOne u f ρ = u a := by rw [ev_one, h1, R.bind_ok]
theorem set_of {f : Dn} {t : Tg} {ρ ρ' : Rho} {d : PyData} (h : f ρ = .ok d) (h2 : t.set d ρ = some ρ') : gSet f t ρ = .nx ρ' := by rw [ev_set, h, oR_ok, h2]; rfl
theorem ret_of {f : Dn} {ρ : Rho} {d : PyData} (h : f ρ = .ok d) : gRet f ρ = .rt d := by rw [ev_ret, h, oR_ok]
theorem seq_of {g h : Sn} {ρ ρ' : Rho} (h1 : g ρ = .nx ρ') : gSeq g h ρ = h ρ' := by rw [ev_seq, h1, seqO_nx]
theorem asB_of {f : Dn} {ρ : Rho} {b : Bool} (h : f ρ = .ok (.bool b)) : dAsB f ρ = .ok b := by rw [ev_asB, h, R.bind_ok]; rfl
theorem if_t {c : DnB} {g h : Sn} {ρ : Rho} (e : c ρ = .ok true) : gIf c g h ρ = g ρ := by rw [ev_ifs, e, oR_ok, if_pos rfl]
theorem if_f {c : DnB} {g h : Sn} {ρ : Rho} (e : c ρ = .ok false) : gIf c g h ρ = h ρ := by rw [ev_ifs, e, oR_ok, if_neg (by decide)]
theorem ife_t {c : DnB} {f g : Dn} {ρ : Rho} (e : c ρ = .ok true) : dIf c f g ρ = f ρ := by rw [ev_if, e, R.bind_ok, if_pos rfl]
theorem ife_f {c : DnB} {f g : Dn} {ρ : Rho} (e : c ρ = .ok false) : dIf c f g ρ = g ρ := by rw [ev_if, e, R.bind_ok, if_neg (by decide)]
end LW
set_option Elab.async false
set_option linter.all false
set_option maxRecDepth 100000
set_option maxHeartbeats 4000000
namespace LW
open PySem PySem.Spec PyProof.Rows L2 PD
def momD (C : Addr) (ps : List Pl) (fr : List PyData) (sets : List (List Int)) (cnt : List Int) : PyData := obD C [("costs", .list (ps.map fun p => tt p.C)), ("free", .list fr), ("sets", lt sets), ("counts", li cnt)]
section
variable {C : Addr} {ps : List Pl} {fr : List PyData} {sets : List (List Int)} {cnt : List Int}
theorem fld_costs : fldD C "costs" (momD C ps fr sets cnt) = .ok (.list (ps.map fun p => tt p.C)) := by
  unfold fldD momD
  rw [asOb_obD]
  dsimp only
  rw [if_pos rfl]
  rfl
theorem fld_free : fldD C "free" (momD C ps fr sets cnt) = .ok (.list fr) := by
  unfold fldD momD
  rw [asOb_obD]
  dsimp only
  rw [if_pos rfl]
  rfl
theorem fld_sets : fldD C "sets" (momD C ps fr sets cnt) = .ok (lt sets) := by
  unfold fldD momD
  rw [asOb_obD]
  dsimp only
  rw [if_pos rfl]
  rfl
theorem fld_counts : fldD C "counts" (momD C ps fr sets cnt) = .ok (li cnt) := by
  unfold fldD momD
  rw [asOb_obD]
  dsimp only
  rw [if_pos rfl]
  rfl
theorem recv_mom (m : Str) (h : m ≠ "costs" ∧ m ≠ "free" ∧ m ≠ "sets" ∧ m ≠ "counts" := by decide +kernel) : recvD C m (momD C ps fr sets cnt) = true := by
  unfold recvD momD
  rw [asOb_obD]
  dsimp only
  have q : ∀ a b : Str, a ≠ b → (a == b) = false := fun a b h => by rw [beq_eq_false_iff_ne]; exact h
  simp [List.lookup, q _ _ h.1, q _ _ h.2.1, q _ _ h.2.2.1, q _ _ h.2.2.2]
def momS (C : Addr) (b : Nat) (ps : List Pl) (fr : List PyData) (sets : List (List Int)) (cnt : List Int) : Store :=
  [.ins C [("costs", .rf (b + 1)), ("free", .rf (b + 2)), ("sets", .rf (b + 3)), ("counts", .rf (b + 4))], .lst (ps.map fun p => .p (tt p.C)), .lst (fr.map .p), .lst (sets.map fun l => .p (tu l)), .lst (cnt.map fun i => .p (.int i))]
theorem app_get {S0 m : Store} {k : Nat} : (S0 ++ m)[S0.length + k]? = m[k]? := by
  rw [List.getElem?_append_right (by omega)]
  congr 1
  omega
theorem app_get0 {S0 m : Store} : (S0 ++ m)[S0.length]? = m[0]? := by
  rw [List.getElem?_append_right (by omega)]
  congr 1
  omega
theorem app_set {S0 m : Store} {k : Nat} {c : Cell} : (S0 ++ m).set (S0.length + k) c = S0 ++ m.set k c := by
  rw [List.set_append_right _ _ (by omega)]
  congr 2
  omega
theorem snap_ps {n : Nat} {S : Store} {α : Type} (f : α → PyData) : ∀ xs : List α, mapO (snapV n S) (xs.map fun x => Vl.p (f x)) = some (xs.map f)
  | [] => rfl
  | x :: xs => by
    have e : snapV n S (.p (f x)) = some (f x) := by cases n <;> rfl
    rw [List.map_cons, mapO, e, snap_ps f xs]
    rfl
theorem mapO4 {α β : Type} {f : α → Option β} {a b c d : α} {x y z u : β} (h1 : f a = some x) (h2 : f b = some y) (h3 : f c = some z) (h4 : f d = some u) : mapO f [a, b, c, d] = some [x, y, z, u] := by simp [mapO, h1, h2, h3, h4]
theorem snap_mom {S0 : Store} : snapV 6 (S0 ++ momS C S0.length ps fr sets cnt) (.rf S0.length) = some (momD C ps fr sets cnt) := by
  have g0 : (S0 ++ momS C S0.length ps fr sets cnt)[S0.length]? = some (.ins C [("costs", .rf (S0.length + 1)), ("free", .rf (S0.length + 2)), ("sets", .rf (S0.length + 3)), ("counts", .rf (S0.length + 4))]) := app_get0
  have g1 : (S0 ++ momS C S0.length ps fr sets cnt)[S0.length + 1]? = some (.lst (ps.map fun p => .p (tt p.C))) := app_get
  have g2 : (S0 ++ momS C S0.length ps fr sets cnt)[S0.length + 2]? = some (.lst (fr.map .p)) := app_get
  have g3 : (S0 ++ momS C S0.length ps fr sets cnt)[S0.length + 3]? = some (.lst (sets.map fun l => .p (tu l))) := app_get
  have g4 : (S0 ++ momS C S0.length ps fr sets cnt)[S0.length + 4]? = some (.lst (cnt.map fun i => .p (.int i))) := app_get
  generalize S0 ++ momS C S0.length ps fr sets cnt = S at g0 g1 g2 g3 g4
  have s1 : snapV 5 S (.rf (S0.length + 1)) = some (.list (ps.map fun p => tt p.C)) := by unfold snapV; rw [g1]; dsimp only; rw [snap_ps fun p : Pl => tt p.C]
  have s2 : snapV 5 S (.rf (S0.length + 2)) = some (.list fr) := by unfold snapV; rw [g2]; dsimp only; rw [mapO_p]
  have s3 : snapV 5 S (.rf (S0.length + 3)) = some (lt sets) := by unfold snapV; rw [g3]; dsimp only; rw [snap_ps tu]; rfl
  have s4 : snapV 5 S (.rf (S0.length + 4)) = some (li cnt) := by unfold snapV; rw [g4]; dsimp only; rw [snap_ps PyData.int]; rfl
  unfold snapV
  rw [g0]
  dsimp only
  have e : mapO (snapV 5 S) (([("costs", .rf (S0.length + 1)), ("free", .rf (S0.length + 2)), ("sets", .rf (S0.length + 3)), ("counts", .rf (S0.length + 4))] : List (Str × Vl)).map (·.2)) = some [.list (ps.map fun p => tt p.C), .list fr, lt sets, li cnt] := mapO4 s1 s2 s3 s4
  rw [e]
  rfl
end
end LW
set_option Elab.async false
set_option linter.all false
set_option maxRecDepth 100000
set_option maxHeartbeats 4000000
namespace LW
open PySem PySem.Spec PyProof.Rows L2 PD
section
variable {n lim : Int} {os : List (List (List Int))} {ch : List (List Int)} {K : Int → Stp} {dep : Int → Int → Nat}
def over (n lim : Int) (ch : List (List Int)) : List Int := (rangeI 0 n).filter fun t => decide (lim < load ch t)
end
end LW
set_option Elab.async false
set_option maxRecDepth 100000
set_option linter.all false
set_option maxHeartbeats 2000000
namespace LW
open PySem PySem.Spec PyProof.Rows L2 PD
def up (n : Int) (b : List Int) : List Int := b.map fun x => n + x
end LW
set_option Elab.async false
set_option linter.all false
set_option maxRecDepth 100000
set_option maxHeartbeats 4000000
namespace LW
open PySem PySem.Spec PyProof.Rows L2 PD
theorem or_ff {f g : DnB} {ρ : Rho} (h1 : f ρ = .ok false) (h2 : g ρ = .ok false) : dOr f g ρ = .ok false := by rw [ev_or, h1, R.bind_ok, if_neg (by decide), h2]
theorem not_of {f : DnB} {ρ : Rho} {b : Bool} (h : f ρ = .ok b) : dNot f ρ = .ok (!b) := by rw [ev_not, h, R.bind_ok]
end LW
set_option Elab.async false
set_option linter.all false
set_option maxRecDepth 100000
set_option maxHeartbeats 4000000
namespace LW
open PySem PySem.Spec PyProof.Rows L2 PD
theorem forGo_cons {t : Tg} {g : Sn} {d : PyData} {ds : List PyData} {ρ ρ1 ρ2 : Rho} (h1 : t.set d ρ = some ρ1) (h2 : g ρ1 = .nx ρ2) : forGo t g (d :: ds) ρ = forGo t g ds ρ2 := by
  conv => lhs; unfold forGo
  rw [h1]
  dsimp only
  rw [h2]
end LW
set_option Elab.async false
set_option maxRecDepth 100000
set_option linter.all false
set_option maxHeartbeats 2000000
set_option Elab.async false
set_option linter.all false
set_option maxRecDepth 100000
set_option maxHeartbeats 4000000
set_option Elab.async false
set_option linter.all false
set_option maxRecDepth 100000
set_option maxHeartbeats 4000000
namespace LW
open PySem PySem.Spec PyProof.Rows L2 PD
theorem app_of {i : Nat} {f : Dn} {ρ : Rho} {ds : List PyData} {d : PyData} (h : ρ[i]? = some (some (.own ds))) (h1 : f ρ = .ok d) (hz : ds.length ≤ 90000) : gApp i f ρ = .nx (ρ.set i (some (.own (ds ++ [d])))) := by
  rw [ev_app, h, ownA_own, h1, oR_ok, if_pos (line_lt (by omega))]
theorem and_of {f g : DnB} {ρ : Rho} {a b : Bool} (h1 : f ρ = .ok a) (h2 : g ρ = .ok b) : dAnd f g ρ = .ok (a && b) := by
  rw [ev_and, h1, R.bind_ok]
  cases a
  · rfl
  · rw [if_pos rfl, h2]; rfl
theorem ix_li50 {L : List Int} {i : Int} (h0 : 0 ≤ i) (h1 : i < (L.length : Int)) : oIx (li L) (.int i) = .ok (.int (ixv L i)) := ix_li h0 h1
end LW
set_option Elab.async false
set_option linter.all false
set_option maxRecDepth 100000
set_option maxHeartbeats 4000000
set_option Elab.async false
set_option linter.all false
set_option maxRecDepth 100000
set_option maxHeartbeats 4000000
set_option Elab.async false
set_option linter.all false
set_option maxRecDepth 100000
set_option maxHeartbeats 4000000
namespace LW
open PySem PySem.Spec PyProof.Rows L2 PD
theorem modV {v : Nat} {ρ : Rho} {L : List Int} {i m : Int} (hL : dVar v ρ = .ok (li L)) (i0 : 0 ≤ i) (i1 : i < (L.length : Int)) (hm : m ≠ 0) : dTwo oMod (dArg bInt (dCons (dTwo oIx (dVar v) (dC (.int i))) dNil)) (dC (.int m)) ρ = .ok (.int ((ixv L i).fmod m)) :=
  (two_of ((arg_of (cons_of ((two_of hL rfl).trans (ix_li50 i0 i1)) rfl)).trans (bInt_int _)) rfl).trans (oMod_int hm)
end LW
set_option Elab.async false
set_option linter.all false
set_option maxRecDepth 100000
set_option maxHeartbeats 4000000
set_option Elab.async false
set_option linter.all false
set_option maxRecDepth 100000
set_option maxHeartbeats 4000000
set_option Elab.async false
set_option linter.all false
set_option maxRecDepth 100000
set_option maxHeartbeats 4000000
set_option Elab.async false
set_option linter.all false
set_option maxRecDepth 100000
set_option maxHeartbeats 4000000
set_option Elab.async false
set_option linter.all false
set_option maxRecDepth 100000
set_option maxHeartbeats 4000000
namespace LW
open PySem PySem.Spec PyProof.Rows L2 PD
theorem and_V {f g : Dn} {ρ : Rho} {a b : Bool} (h1 : f ρ = .ok (.bool a)) (h2 : g ρ = .ok (.bool b)) : dAndV f g ρ = .ok (.bool (a && b)) := by
  rw [ev_andV, h1, R.bind_ok, show asB (.bool a) = .ok a from rfl, R.bind_ok]
  cases a
  · rfl
  · rw [if_pos rfl, h2]; rfl
end LW
set_option Elab.async false
set_option linter.all false
set_option maxRecDepth 100000
set_option maxHeartbeats 4000000
set_option Elab.async false
set_option linter.all false
set_option maxRecDepth 100000
set_option maxHeartbeats 4000000
set_option Elab.async false
set_option linter.all false
set_option maxRecDepth 100000
set_option maxHeartbeats 4000000
set_option Elab.async false
set_option linter.all false
set_option maxRecDepth 100000
set_option maxHeartbeats 4000000
namespace LW
open PySem PySem.Spec PyProof.Rows L2 PD
section
variable {n : Int} {ps : List Pl} {C ch : List (List Int)} {P : List Int}
theorem gIf_ret {c : DnB} {d : PyData} {ρ : Rho} (e : c ρ = .ok true) : gIf c (gRet (dC d)) gSkip ρ = .rt d := (if_t e).trans rfl
theorem gIf_skip {c : DnB} {d : PyData} {ρ : Rho} (e : c ρ = .ok false) : gIf c (gRet (dC d)) gSkip ρ = .nx ρ := (if_f e).trans rfl
theorem seq_rt {g h : Sn} {ρ : Rho} {d : PyData} (e : g ρ = .rt d) : gSeq g h ρ = .rt d := by rw [ev_seq, e]; rfl
end
end LW
set_option Elab.async false
set_option linter.all false
set_option maxRecDepth 100000
set_option maxHeartbeats 4000000
namespace LW
open PySem PySem.Spec PyProof.Rows L2 PD
section
variable {n : Int} {ps : List Pl} {C ch : List (List Int)} {P : List Int}
theorem seq_if_f {c : DnB} {g h : Sn} {ρ : Rho} (e : c ρ = .ok false) : gSeq (gIf c g gSkip) h ρ = h ρ := seq_of ((if_f e).trans rfl)
end
end LW
set_option Elab.async false
set_option linter.all false
set_option maxRecDepth 100000
set_option maxHeartbeats 4000000
set_option Elab.async false
set_option linter.all false
set_option maxRecDepth 100000
set_option maxHeartbeats 4000000
namespace LW
open PySem PySem.Spec PyProof.Rows L2 PD
theorem or_t {f g : DnB} {ρ : Rho} (h1 : f ρ = .ok true) : dOr f g ρ = .ok true := by rw [ev_or, h1, R.bind_ok, if_pos rfl]
theorem or_f {f g : DnB} {ρ : Rho} {b : Bool} (h1 : f ρ = .ok false) (h2 : g ρ = .ok b) : dOr f g ρ = .ok b := by rw [ev_or, h1, R.bind_ok, if_neg (by decide), h2]
end LW
set_option Elab.async false
set_option linter.all false
set_option maxRecDepth 100000
set_option maxHeartbeats 4000000
namespace LW
open PySem PySem.Spec PyProof.Rows L2 PD
def oI : Option Int → PyData
  | none => .none
  | some x => .int x
abbrev Mv65 := Int × Option Int × Int
def mvD65 (m : Mv65) : PyData := .tuple [.int m.1, oI m.2.1, .int m.2.2]
def lawFree (ls : List (List Int)) (k : List Int) : Bool := ls.any fun l => k.all fun x => decide (x ∈ l)
def larger (own : List Int) : Option Int → Int → List Int
  | none, p => sortI (own ++ [p])
  | some o, p => exch own o p
def costM (ps : List Pl) (sets : List (List Int)) (i x more : Int) : Int := cost (plx ps i).C x (load sets x + more)
def okOut (ps : List Pl) (sets : List (List Int)) (m : Mv65) : Bool := match m.2.1 with
  | none => true
  | some o => decide (o ∈ ixr sets m.1) && decide (costM ps sets m.1 m.2.2 1 < costM ps sets m.1 o 0)
def stp (ps : List Pl) (sets : List (List Int)) (m : Mv65) : Option (List (List Int)) :=
  if m.2.2 ∈ ixr sets m.1 then none else if okOut ps sets m = true then (if lawFree (plx ps m.1).ls (larger (ixr sets m.1) m.2.1 m.2.2) = true then some (withL sets m.1 (larger (ixr sets m.1) m.2.1 m.2.2)) else none) else none
structure Mom (n : Int) (ps : List Pl) (sets : List (List Int)) : Prop where
  len : sets.length = ps.length
  free : ∀ i, 0 ≤ i → i < (ps.length : Int) → Free n (plx ps i).ls (ixr sets i)
structure InR (n : Int) (ps : List Pl) (m : Mv65) : Prop where
  i0 : 0 ≤ m.1
  i1 : m.1 < (ps.length : Int)
  o : ∀ x, m.2.1 = some x → 0 ≤ x ∧ x < n
  p0 : 0 ≤ m.2.2
  p1 : m.2.2 < n
theorem lawFree_iff {ls : List (List Int)} {k : List Int} : lawFree ls k = true ↔ ∃ l ∈ ls, ∀ y ∈ k, y ∈ l := by
  unfold lawFree
  rw [List.any_eq_true]
  constructor
  · rintro ⟨l, hl, h⟩
    rw [List.all_eq_true] at h
    exact ⟨l, hl, fun y hy => of_decide_eq_true (h y hy)⟩
  · rintro ⟨l, hl, h⟩
    exact ⟨l, hl, List.all_eq_true.mpr fun y hy => decide_eq_true (h y hy)⟩
section
variable {n : Int} {ps : List Pl} {sets : List (List Int)}
theorem ixr_mem65 {L : List (List Int)} {i : Int} (i0 : 0 ≤ i) (i1 : i < (L.length : Int)) : ixr L i ∈ L := by
  unfold ixr
  have h : i.toNat < L.length := by omega
  rw [List.getElem?_eq_getElem h]
  exact List.getElem_mem h
theorem load_lt65 {x i : Int} (i0 : 0 ≤ i) (i1 : i < (sets.length : Int)) (h : ¬ x ∈ ixr sets i) : load sets x < (sets.length : Int) := by
  unfold load
  have : (sets.filter fun l => decide (x ∈ l)).length < sets.length := List.length_filter_lt_length_iff_exists.mpr ⟨_, ixr_mem65 i0 i1, by simpa using h⟩
  omega
theorem load_pos65 {x i : Int} (i0 : 0 ≤ i) (i1 : i < (sets.length : Int)) (h : x ∈ ixr sets i) : 1 ≤ load sets x := by
  unfold load
  have := List.length_pos_of_mem (List.mem_filter.mpr ⟨ixr_mem65 i0 i1, decide_eq_true h⟩ : ixr sets i ∈ sets.filter fun l => decide (x ∈ l))
  omega
theorem Mom.asc (M : Mom n ps sets) {i : Int} (i0 : 0 ≤ i) (i1 : i < (ps.length : Int)) : Asc n (ixr sets i) := (M.free i i0 i1).1
theorem larger_asc (M : Mom n ps sets) {m : Mv65} (R : InR n ps m) (h : ¬ m.2.2 ∈ ixr sets m.1) : Asc n (larger (ixr sets m.1) m.2.1 m.2.2) := by
  have a := M.asc R.i0 R.i1
  cases e : m.2.1 with
  | none => exact (sortI_asc (by rw [List.nodup_append]; exact ⟨a.nodup, by simp, fun x hx y hy => by rw [List.mem_singleton.mp hy]; exact fun z => h (z ▸ hx)⟩) fun x hx => by
      rcases List.mem_append.mp hx with hx | hx
      · exact a.2 x hx
      · rw [List.mem_singleton.mp hx]; exact ⟨R.p0, R.p1⟩)
  | some o => exact exch_asc a h ⟨R.p0, R.p1⟩
theorem stp_some {m : Mv65} {s2 : List (List Int)} (h : stp ps sets m = some s2) : ¬ m.2.2 ∈ ixr sets m.1 ∧ okOut ps sets m = true ∧ lawFree (plx ps m.1).ls (larger (ixr sets m.1) m.2.1 m.2.2) = true ∧ s2 = withL sets m.1 (larger (ixr sets m.1) m.2.1 m.2.2) := by
  unfold stp at h
  split at h
  · cases h
  · rename_i h1
    split at h
    · rename_i h2
      split at h
      · rename_i h3
        cases h
        exact ⟨h1, h2, h3, rfl⟩
      · cases h
    · cases h
theorem ixr_with65 {i j : Int} {l : List Int} (i0 : 0 ≤ i) (i1 : i < (sets.length : Int)) (j0 : 0 ≤ j) (j1 : j < (sets.length : Int)) : ixr (withL sets i l) j = if j = i then l else ixr sets j := by
  unfold withL ixr
  by_cases e : j = i
  · subst e
    rw [if_pos rfl, List.getElem?_set_self (by omega)]
    rfl
  · rw [if_neg e, List.getElem?_set_ne (by omega)]
theorem Mom.step (M : Mom n ps sets) {m : Mv65} (R : InR n ps m) {s2 : List (List Int)} (h : stp ps sets m = some s2) : Mom n ps s2 := by
  obtain ⟨h1, h2, h3, rfl⟩ := stp_some h
  have len := M.len
  refine ⟨by unfold withL; rw [List.length_set]; exact len, fun i i0 i1 => ?_⟩
  have R0 := R.i0
  have R1 := R.i1
  rw [ixr_with65 R0 (by omega) i0 (by omega)]
  by_cases e : i = m.1
  · rw [if_pos e, e]
    exact ⟨larger_asc M R h1, lawFree_iff.mp h3⟩
  · rw [if_neg e]
    exact M.free i i0 i1
theorem v_law_free (ls : List (List Int)) (k : List Int) : m_law_is_free [tt ls, tu k] = .ok (.bool (lawFree ls k)) := by
  show endR (g_law_is_free [some (.d (tt ls)), some (.d (tu k)), none]) = _
  have lc := lc_of (enc := tu) (fi := dItems (dVar 0)) (t := .nm 2) (ft := dYes) (fe := dArg m_law_within (dCons (dVar 1) (dCons (dVar 2) dNil))) (vs := [2]) (ρ := [some (.d (tt ls)), some (.d (tu k)), none]) (xs := ls) (st := fun l => [some (.d (tt ls)), some (.d (tu k)), some (.d (tu l))]) (q := fun _ => true) (g := fun l => PyData.bool (k.all fun x => decide (x ∈ l))) rfl (fun l _ => ⟨rfl, rfl, fun _ => (arg_of (m := m_law_within) (cons_of (f := dVar 1) rfl (cons_of (f := dVar 2) (g := dNil) rfl rfl))).trans (v_within k l)⟩)
  rw [List.filter_eq_self.mpr (fun _ _ => rfl)] at lc
  unfold g_law_is_free
  rw [ret_of ((arg_of (m := bAny) (cons_of (g := dNil) lc rfl)).trans (bAny_map _ _))]
  rfl
theorem v_law_cost65 (G : Game n ps) {i x more : Int} (i0 : 0 ≤ i) (i1 : i < (ps.length : Int)) (x0 : 0 ≤ x) (x1 : x < n) (k0 : 1 ≤ load sets x + more) (k1 : load sets x + more ≤ (ps.length : Int)) : m_law_cost [gmD n ps, tt sets, .int i, .int x, .int more] = .ok (.int (costM ps sets i x more)) := by
  have hp := plx_mem i0 i1
  have rows := G.rows _ hp
  have room : (ps.length : Int) ≤ ((ixr (plx ps i).C x).length : Int) := by
    have := G.room _ hp (ixr (plx ps i).C x) (ixr_mem65 x0 (by omega))
    rwa [sum_one G.one] at this
  show endR (g_law_cost [some (.d (gmD n ps)), some (.d (tt sets)), some (.d (.int i)), some (.d (.int x)), some (.d (.int more)), none, none]) = _
  have lc := lc_of (enc := tu) (fi := dItems (dVar 1)) (t := .nm 6) (ft := dAsB (dTwo oIn (dVar 3) (dVar 6))) (fe := dVar 6) (vs := [6]) (ρ := [some (.d (gmD n ps)), some (.d (tt sets)), some (.d (.int i)), some (.d (.int x)), some (.d (.int more)), none, none]) (xs := sets) (st := fun l => [some (.d (gmD n ps)), some (.d (tt sets)), some (.d (.int i)), some (.d (.int x)), some (.d (.int more)), none, some (.d (tu l))]) (q := fun l => decide (x ∈ l)) (g := tu) rfl (fun l _ => ⟨rfl, asB_of ((two_of rfl rfl).trans (oIn_tu x l)), fun _ => rfl⟩)
  have s1 := set_of (t := .nm 5) ((arg_of (m := bLen) (cons_of (g := dNil) lc rfl)).trans (bLen_lt _)) (set_nm _ _ _)
  simp only [List.set_cons_succ, List.set_cons_zero] at s1
  have e1 : dTwo oSub (dTwo oAdd (dVar 5) (dVar 4)) (dC (.int 1)) [some (.d (gmD n ps)), some (.d (tt sets)), some (.d (.int i)), some (.d (.int x)), some (.d (.int more)), some (.d (.int (load sets x))), none] = .ok (.int (load sets x + more - 1)) := (two_of ((two_of (u := oAdd) (f := dVar 5) (g := dVar 4) rfl rfl).trans (oAdd_int _ _)) (g := dC (.int 1)) rfl).trans (oSub_int _ _)
  have e2 : dTwo oIx (dTwo oIx (dTwo oIx (dVar 0) (dVar 2)) (dC (.int 1))) (dVar 3) [some (.d (gmD n ps)), some (.d (tt sets)), some (.d (.int i)), some (.d (.int x)), some (.d (.int more)), some (.d (.int (load sets x))), none] = .ok (tu (ixr (plx ps i).C x)) := (two_of ((two_of ((two_of (f := dVar 0) (g := dVar 2) rfl rfl).trans (ix_tk i0 i1)) (g := dC (.int 1)) rfl).trans (tk_p1 _ _)) (g := dVar 3) rfl).trans (ix_tt x0 (by omega))
  unfold g_law_cost
  rw [seq_of s1]
  show endR (gRet _ [some (.d (gmD n ps)), some (.d (tt sets)), some (.d (.int i)), some (.d (.int x)), some (.d (.int more)), some (.d (.int (load sets x))), none]) = _
  rw [ret_of ((two_of e2 e1).trans (ix_tu (by omega) (by omega)))]
  rfl
theorem lt_out (M : Mom n ps sets) {m : Mv65} (R : InR n ps m) (h : ¬ m.2.2 ∈ ixr sets m.1) : load sets m.2.2 + 1 ≤ (ps.length : Int) ∧ 0 ≤ load sets m.2.2 := by
  have := load_lt65 R.i0 (by rw [M.len]; exact R.i1) h
  have l := M.len
  have z := load_le (ch := sets) (x := m.2.2)
  omega
theorem pos_out (M : Mom n ps sets) {m : Mv65} (R : InR n ps m) {o : Int} (h : o ∈ ixr sets m.1) : 1 ≤ load sets o ∧ load sets o ≤ (ps.length : Int) := by
  have := load_pos65 R.i0 (by rw [M.len]; exact R.i1) h
  have l := M.len
  have z := load_le (ch := sets) (x := o)
  omega
def st65D (o : Option (List (List Int))) : PyData := match o with
  | some s => tt s
  | none => .none
theorem v_step (G : Game n ps) (M : Mom n ps sets) {m : Mv65} (R : InR n ps m) (hz : ps.length ≤ 100) : m_law_step [gmD n ps, tt sets, mvD65 m] = .ok (st65D (stp ps sets m)) := by
  obtain ⟨i, out, p⟩ := m
  have i0 : 0 ≤ i := R.i0
  have i1 : i < (ps.length : Int) := R.i1
  have p0 : 0 ≤ p := R.p0
  have p1 : p < n := R.p1
  have len := M.len
  have n1 := G.n1
  have asc := M.asc i0 i1
  have al := asc.len
  show endR (g_law_step [some (.d (gmD n ps)), some (.d (tt sets)), some (.d (mvD65 (i, out, p))), none, none, none, none, none]) = _
  obtain ⟨own, hown⟩ : ∃ own, own = ixr sets i := ⟨_, rfl⟩
  have rn : ∀ x7 : Option Sl, ([some (.d (gmD n ps)), some (.d (tt sets)), some (.d (mvD65 (i, out, p))), some (.d (.int i)), some (.d (oI out)), some (.d (.int p)), some (.d (tu own)), x7] : Rho) = [some (.d (gmD n ps)), some (.d (tt sets)), some (.d (mvD65 (i, out, p))), some (.d (.int i)), some (.d (oI out)), some (.d (.int p)), some (.d (tu own)), x7] := fun _ => rfl
  have s1 : gSet (dTwo oIx (dVar 2) (dC (.int 0))) (.nm 3) [some (.d (gmD n ps)), some (.d (tt sets)), some (.d (mvD65 (i, out, p))), none, none, none, none, none] = .nx [some (.d (gmD n ps)), some (.d (tt sets)), some (.d (mvD65 (i, out, p))), some (.d (.int i)), none, none, none, none] := set_of ((two_of rfl rfl).trans (show _ = PD.R.ok (PyData.int i) from rfl)) (set_nm _ _ _)
  have s2 : gSet (dTwo oIx (dVar 2) (dC (.int 1))) (.nm 4) [some (.d (gmD n ps)), some (.d (tt sets)), some (.d (mvD65 (i, out, p))), some (.d (.int i)), none, none, none, none] = .nx [some (.d (gmD n ps)), some (.d (tt sets)), some (.d (mvD65 (i, out, p))), some (.d (.int i)), some (.d (oI out)), none, none, none] := set_of ((two_of rfl rfl).trans (show _ = PD.R.ok (oI out) from rfl)) (set_nm _ _ _)
  have s3 : gSet (dTwo oIx (dVar 2) (dC (.int 2))) (.nm 5) [some (.d (gmD n ps)), some (.d (tt sets)), some (.d (mvD65 (i, out, p))), some (.d (.int i)), some (.d (oI out)), none, none, none] = .nx [some (.d (gmD n ps)), some (.d (tt sets)), some (.d (mvD65 (i, out, p))), some (.d (.int i)), some (.d (oI out)), some (.d (.int p)), none, none] := set_of ((two_of rfl rfl).trans (show _ = PD.R.ok (PyData.int p) from rfl)) (set_nm _ _ _)
  have s4 : gSet (dTwo oIx (dVar 1) (dVar 3)) (.nm 6) [some (.d (gmD n ps)), some (.d (tt sets)), some (.d (mvD65 (i, out, p))), some (.d (.int i)), some (.d (oI out)), some (.d (.int p)), none, none] = .nx [some (.d (gmD n ps)), some (.d (tt sets)), some (.d (mvD65 (i, out, p))), some (.d (.int i)), some (.d (oI out)), some (.d (.int p)), some (.d (tu own)), none] := set_of ((two_of rfl rfl).trans (hown ▸ ix_tt i0 (by omega))) (set_nm _ _ _)
  have q5 : dAsB (dTwo oIn (dVar 5) (dVar 6)) [some (.d (gmD n ps)), some (.d (tt sets)), some (.d (mvD65 (i, out, p))), some (.d (.int i)), some (.d (oI out)), some (.d (.int p)), some (.d (tu own)), none] = .ok (decide (p ∈ own)) := asB_of ((two_of rfl rfl).trans (oIn_tu _ _))
  have stpE : stp ps sets (i, out, p) = if p ∈ own then none else if okOut ps sets (i, out, p) = true then (if lawFree (plx ps i).ls (larger own out p) = true then some (withL sets i (larger own out p)) else none) else none := by rw [hown]; rfl
  rw [stpE]
  unfold g_law_step
  rw [seq_of s1, seq_of s2, seq_of s3, seq_of s4]
  by_cases hp : p ∈ own
  · rw [decide_eq_true hp] at q5
    rw [seq_rt (gIf_ret q5), if_pos hp]
    rfl
  rw [decide_eq_false hp] at q5
  rw [seq_of (gIf_skip q5), if_neg hp]
  have last : ∀ L : List Int, (gSeq (gIf (dNot (dAsB (dArg m_law_is_free (dCons (dTwo oIx (dTwo oIx (dTwo oIx (dVar 0) (dVar 3)) (dC (.int 0))) (dC (.int 1))) (dCons (dVar 7) dNil))))) (gRet (dC .none)) gSkip) (gRet (dTwo oAdd (dTwo oAdd (dCut (dVar 1) dNoP (dPart (dVar 3))) (dTup (dCons (dVar 7) dNil))) (dCut (dVar 1) (dPart (dTwo oAdd (dVar 3) (dC (.int 1)))) dNoP)))) [some (.d (gmD n ps)), some (.d (tt sets)), some (.d (mvD65 (i, out, p))), some (.d (.int i)), some (.d (oI out)), some (.d (.int p)), some (.d (tu own)), some (.d (tu L))] = .rt (st65D (if lawFree (plx ps i).ls L = true then some (withL sets i L) else none)) := fun L => by
    have el : dTwo oIx (dTwo oIx (dTwo oIx (dVar 0) (dVar 3)) (dC (.int 0))) (dC (.int 1)) [some (.d (gmD n ps)), some (.d (tt sets)), some (.d (mvD65 (i, out, p))), some (.d (.int i)), some (.d (oI out)), some (.d (.int p)), some (.d (tu own)), some (.d (tu L))] = .ok (tt (plx ps i).ls) := (two_of ((two_of ((two_of (f := dVar 0) (g := dVar 3) rfl rfl).trans (ix_tk i0 i1)) (g := dC (.int 0)) rfl).trans (show _ = PD.R.ok (ofr n (plx ps i).ls) from rfl)) (g := dC (.int 1)) rfl).trans (of_p1 _ _)
    have q7 := not_of (asB_of ((arg_of (m := m_law_is_free) (cons_of el (cons_of (f := dVar 7) (g := dNil) rfl rfl))).trans (v_law_free (plx ps i).ls L)))
    by_cases hf : lawFree (plx ps i).ls L = true
    · rw [hf] at q7
      rw [if_pos hf, seq_of (gIf_skip q7)]
      have f1 : dCut (dVar 1) dNoP (dPart (dVar 3)) [some (.d (gmD n ps)), some (.d (tt sets)), some (.d (mvD65 (i, out, p))), some (.d (.int i)), some (.d (oI out)), some (.d (.int p)), some (.d (tu own)), some (.d (tu L))] = .ok (tt (sets.take i.toNat)) := cut_to' i0 (by omega)
      have f2 : dTup (dCons (dVar 7) dNil) [some (.d (gmD n ps)), some (.d (tt sets)), some (.d (mvD65 (i, out, p))), some (.d (.int i)), some (.d (oI out)), some (.d (.int p)), some (.d (tu own)), some (.d (tu L))] = .ok (tt [L]) := rfl
      have f3 : dCut (dVar 1) (dPart (dTwo oAdd (dVar 3) (dC (.int 1)))) dNoP [some (.d (gmD n ps)), some (.d (tt sets)), some (.d (mvD65 (i, out, p))), some (.d (.int i)), some (.d (oI out)), some (.d (.int p)), some (.d (tu own)), some (.d (tu L))] = .ok (tt (sets.drop (i.toNat + 1))) := cut_from' i0 (by omega)
      have fin := (two_of (u := oAdd) ((two_of (u := oAdd) f1 f2).trans (oAdd_tt (by rw [List.length_take, List.length_singleton]; omega))) f3).trans (oAdd_tt (by rw [List.length_append, List.length_take, List.length_singleton, List.length_drop]; omega))
      rw [ret_of fin, with_eq i0 (by omega)]
      rfl
    · rw [Bool.not_eq_true] at hf
      rw [hf] at q7 ⊢
      rw [seq_rt (gIf_ret q7)]
      rfl
  cases out with
  | none =>
    have q6 : dAsB (dOne (fun d => .ok (.bool (isNone d))) (dVar 4)) [some (.d (gmD n ps)), some (.d (tt sets)), some (.d (mvD65 (i, none, p))), some (.d (.int i)), some (.d (oI none)), some (.d (.int p)), some (.d (tu own)), none] = .ok true := rfl
    have e7 : dArg bTuple (dCons (dArg bSorted (dCons (dTwo oAdd (dVar 6) (dTup (dCons (dVar 5) dNil))) dNil)) dNil) [some (.d (gmD n ps)), some (.d (tt sets)), some (.d (mvD65 (i, none, p))), some (.d (.int i)), some (.d (oI none)), some (.d (.int p)), some (.d (tu own)), none] = .ok (tu (sortI (own ++ [p]))) := by
      have a1 := (two_of (u := oAdd) (f := dVar 6) (a := tu own) (ρ := [some (.d (gmD n ps)), some (.d (tt sets)), some (.d (mvD65 (i, none, p))), some (.d (.int i)), some (.d (oI none)), some (.d (.int p)), some (.d (tu own)), none]) rfl (show dTup (dCons (dVar 5) dNil) _ = .ok (tu [p]) from rfl)).trans (oAdd_tu (by rw [List.length_singleton, hown]; omega))
      have a2 := (arg_of (m := bSorted) (cons_of (g := dNil) a1 rfl)).trans (bSorted_tu _)
      exact (arg_of (m := bTuple) (cons_of (g := dNil) a2 rfl)).trans rfl
    rw [seq_of ((if_t q6).trans (set_of e7 (set_nm _ _ _)))]
    have ok : okOut ps sets (i, none, p) = true := rfl
    rw [if_pos ok]
    show endR (gSeq _ _ [some (.d (gmD n ps)), some (.d (tt sets)), some (.d (mvD65 (i, none, p))), some (.d (.int i)), some (.d (oI none)), some (.d (.int p)), some (.d (tu own)), some (.d (tu (sortI (own ++ [p]))))]) = _
    rw [last]
    rfl
  | some o =>
    obtain ⟨o0, o1⟩ := R.o o rfl
    have q6 : dAsB (dOne (fun d => .ok (.bool (isNone d))) (dVar 4)) [some (.d (gmD n ps)), some (.d (tt sets)), some (.d (mvD65 (i, some o, p))), some (.d (.int i)), some (.d (oI (some o))), some (.d (.int p)), some (.d (tu own)), none] = .ok false := rfl
    have q7 : dAsB (dTwo oNotIn (dVar 4) (dVar 6)) [some (.d (gmD n ps)), some (.d (tt sets)), some (.d (mvD65 (i, some o, p))), some (.d (.int i)), some (.d (oI (some o))), some (.d (.int p)), some (.d (tu own)), none] = .ok (!decide (o ∈ own)) := asB_of ((two_of (f := dVar 4) (g := dVar 6) rfl rfl).trans (oNotIn_tu _ _))
    have okE : okOut ps sets (i, some o, p) = (decide (o ∈ own) && decide (costM ps sets i p 1 < costM ps sets i o 0)) := by rw [hown]; rfl
    rw [okE]
    by_cases ho : o ∈ own
    · rw [decide_eq_true ho] at q7 ⊢
      rw [Bool.true_and]
      obtain ⟨a1, a2⟩ := lt_out M R (by rw [← hown]; exact hp)
      obtain ⟨b1, b2⟩ := pos_out M R (o := o) (by rw [← hown]; exact ho)
      have a1 : load sets p + 1 ≤ (ps.length : Int) := a1
      have a2 : 0 ≤ load sets p := a2
      have c1 := v_law_cost65 (sets := sets) G (more := 1) i0 i1 p0 p1 (by omega) (by omega)
      have c2 := v_law_cost65 (sets := sets) G (more := 0) i0 i1 o0 o1 (by omega) (by omega)
      have q8 : dAsB (dTwo oLt (dArg m_law_cost (dCons (dVar 0) (dCons (dVar 1) (dCons (dVar 3) (dCons (dVar 5) (dCons (dC (.int 1)) dNil)))))) (dArg m_law_cost (dCons (dVar 0) (dCons (dVar 1) (dCons (dVar 3) (dCons (dVar 4) (dCons (dC (.int 0)) dNil))))))) [some (.d (gmD n ps)), some (.d (tt sets)), some (.d (mvD65 (i, some o, p))), some (.d (.int i)), some (.d (oI (some o))), some (.d (.int p)), some (.d (tu own)), none] = .ok (decide (costM ps sets i p 1 < costM ps sets i o 0)) :=
        asB_of ((two_of (u := oLt) ((arg_of (m := m_law_cost) (cons_of (f := dVar 0) rfl (cons_of (f := dVar 1) rfl (cons_of (f := dVar 3) rfl (cons_of (f := dVar 5) rfl (cons_of (f := dC (.int 1)) (g := dNil) rfl rfl)))))).trans c1) ((arg_of (m := m_law_cost) (cons_of (f := dVar 0) rfl (cons_of (f := dVar 1) rfl (cons_of (f := dVar 3) rfl (cons_of (f := dVar 4) rfl (cons_of (f := dC (.int 0)) (g := dNil) rfl rfl)))))).trans c2)).trans (oLt_int _ _))
      by_cases hc : costM ps sets i p 1 < costM ps sets i o 0
      · rw [decide_eq_true hc] at q8 ⊢
        have e7 : dArg m_law_exchanged (dCons (dVar 6) (dCons (dVar 4) (dCons (dVar 5) dNil))) [some (.d (gmD n ps)), some (.d (tt sets)), some (.d (mvD65 (i, some o, p))), some (.d (.int i)), some (.d (oI (some o))), some (.d (.int p)), some (.d (tu own)), none] = .ok (tu (exch own o p)) := (arg_of (m := m_law_exchanged) (cons_of (f := dVar 6) rfl (cons_of (f := dVar 4) rfl (cons_of (f := dVar 5) (g := dNil) rfl rfl)))).trans (v_law_exch own o p (by rw [hown]; omega))
        rw [seq_of ((if_f q6).trans ((if_f q7).trans ((if_t q8).trans (set_of e7 (set_nm _ _ _)))))]
        rw [if_pos rfl]
        show endR (gSeq _ _ [some (.d (gmD n ps)), some (.d (tt sets)), some (.d (mvD65 (i, some o, p))), some (.d (.int i)), some (.d (oI (some o))), some (.d (.int p)), some (.d (tu own)), some (.d (tu (exch own o p)))]) = _
        rw [last]
        rfl
      · rw [decide_eq_false hc] at q8 ⊢
        rw [seq_rt ((if_f q6).trans ((if_f q7).trans ((if_f q8).trans (ret_of (d := .none) rfl)))), if_neg (by decide)]
        rfl
    · rw [decide_eq_false ho] at q7 ⊢
      rw [seq_rt ((if_f q6).trans ((if_t q7).trans (ret_of (d := .none) rfl))), Bool.false_and, if_neg (by decide)]
      rfl
end
end LW
set_option Elab.async false
set_option linter.all false
set_option maxRecDepth 100000
set_option maxHeartbeats 4000000
namespace LW
open PySem PySem.Spec PyProof.Rows L2 PD
theorem ix_lof {α : Type} (f : α → PyData) {xs : List α} {i : Int} (h0 : 0 ≤ i) {x : α} (h : xs[i.toNat]? = some x) : oIx (.list (xs.map f)) (.int i) = .ok (f x) := by
  show (match atI (xs.map f) i with | some d => PD.R.ok d | none => .bad) = _
  rw [atI_get _ h0 h]
end LW
set_option Elab.async false
set_option linter.all false
set_option maxRecDepth 100000
set_option maxHeartbeats 4000000
namespace LW
open PySem PySem.Spec PyProof.Rows L2 PD
theorem at_of {C : Addr} {f : Str} {g : Dn} {ρ : Rho} {o y : PyData} (h : g ρ = .ok o) (h2 : fldD C f o = .ok y) : dAt C f g ρ = .ok y := by
  show (g ρ >>= fldD C f) = _
  rw [h, R.bind_ok, h2]
theorem meth_of {C : Addr} {nm : Str} {m : List PyData → PD.R PyData} {g : Dn} {gl : DnL} {ρ : Rho} {o : PyData} {ds : List PyData} (h : g ρ = .ok o) (r : recvD C nm o = true) (ha : gl ρ = .ok ds) : dMethD C nm m g gl ρ = m (o :: ds) := by
  show (g ρ >>= fun o => if recvD C nm o = true then gl ρ >>= fun ds => m (o :: ds) else .bad) = _
  rw [h, R.bind_ok, if_pos r, ha, R.bind_ok]
structure FrOk (n : Int) (ps : List Pl) (fr : List PyData) : Prop where
  len : fr.length = ps.length
  at_ : ∀ i, 0 ≤ i → i < (ps.length : Int) → ∃ ks : List (List Int), fr[i.toNat]? = some (.dict (ks.map keyD)) ∧ ∀ k, k ∈ ks ↔ Free n (plx ps i).ls k
theorem ix_ld {ds : List PyData} {i : Int} (h0 : 0 ≤ i) {d : PyData} (h : ds[i.toNat]? = some d) : oIx (.list ds) (.int i) = .ok d := by
  have := ix_lof (α := PyData) id (xs := ds) h0 h
  rwa [List.map_id] at this
section
variable {C : Addr} {n z : Int} {ps : List Pl} {fr : List PyData} {sets : List (List Int)}
/-- the moment that these sets make -/
def momM (C : Addr) (ps : List Pl) (fr : List PyData) (z : Int) (sets : List (List Int)) : PyData := momD C ps fr sets ((rangeI 0 z).map (load sets))
theorem ix_sets (M : Mom n ps sets) {i : Int} (i0 : 0 ≤ i) (i1 : i < (ps.length : Int)) : oIx (lt sets) (.int i) = .ok (tu (ixr sets i)) := ix_lt i0 (by rw [M.len]; exact i1)
theorem ix_counts {x : Int} (x0 : 0 ≤ x) (x1 : x < z) : oIx (li ((rangeI 0 z).map (load sets))) (.int x) = .ok (.int (load sets x)) := by
  rw [ix_li50 x0 (by rw [List.length_map, rng_len]; omega), ixv_rng (load sets) x0 x1]
theorem ix_costs {i : Int} (i0 : 0 ≤ i) (i1 : i < (ps.length : Int)) : oIx (.list (ps.map fun p => tt p.C)) (.int i) = .ok (tt (plx ps i).C) := by
  have h : i.toNat < ps.length := by omega
  have e : (ps.map fun p => tt p.C)[i.toNat]? = some (tt (plx ps i).C) := by
    rw [List.getElem?_map, List.getElem?_eq_getElem h]
    unfold plx
    rw [List.getElem?_eq_getElem h]
    rfl
  exact ix_ld i0 e
theorem free_dec {ks : List (List Int)} {ls : List (List Int)} {k : List Int} (h : ∀ k, k ∈ ks ↔ Free n ls k) (a : Asc n k) : decide (k ∈ ks) = lawFree ls k := by
  rw [Bool.eq_iff_iff, decide_eq_true_iff, h, lawFree_iff]
  exact ⟨fun q => q.2, fun q => ⟨a, q⟩⟩
theorem v_can_add (M : Mom n ps sets) (F : FrOk n ps fr) (n9 : n ≤ 900) {i p : Int} (i0 : 0 ≤ i) (i1 : i < (ps.length : Int)) (p0 : 0 ≤ p) (p1 : p < n) : m_Moment_can_add C [momM C ps fr z sets, .int i, .int p] = .ok (.bool (!decide (p ∈ ixr sets i) && lawFree (plx ps i).ls (sortI (ixr sets i ++ [p])))) := by
  obtain ⟨ks, hk, iff⟩ := F.at_ i i0 i1
  have al := (M.asc i0 i1).len
  show endR (g_Moment_can_add C [some (.d (momM C ps fr z sets)), some (.d (.int i)), some (.d (.int p)), none]) = _
  have s1 : gSet (dTwo oIx (dAt C "sets" (dVar 0)) (dVar 1)) (.nm 3) [some (.d (momM C ps fr z sets)), some (.d (.int i)), some (.d (.int p)), none] = .nx [some (.d (momM C ps fr z sets)), some (.d (.int i)), some (.d (.int p)), some (.d (tu (ixr sets i)))] :=
    set_of ((two_of (at_of (g := dVar 0) rfl fld_sets) (g := dVar 1) rfl).trans (ix_sets M i0 i1)) (set_nm _ _ _)
  have q1 : dTwo oNotIn (dVar 2) (dVar 3) [some (.d (momM C ps fr z sets)), some (.d (.int i)), some (.d (.int p)), some (.d (tu (ixr sets i)))] = .ok (.bool (!decide (p ∈ ixr sets i))) := (two_of rfl rfl).trans (oNotIn_tu _ _)
  unfold g_Moment_can_add
  rw [seq_of s1]
  by_cases hp : p ∈ ixr sets i
  · rw [decide_eq_true hp] at q1 ⊢
    have e : ∀ g : Dn, dAndV (dTwo oNotIn (dVar 2) (dVar 3)) g [some (.d (momM C ps fr z sets)), some (.d (.int i)), some (.d (.int p)), some (.d (tu (ixr sets i)))] = .ok (.bool false) := fun g => by rw [ev_andV, q1, R.bind_ok]; rfl
    rw [ret_of (e _)]
    rfl
  · rw [decide_eq_false hp] at q1 ⊢
    have q2 : dTwo oInT (dArg m_put_in (dCons (dVar 3) (dCons (dVar 2) dNil))) (dTwo oIx (dAt C "free" (dVar 0)) (dVar 1)) [some (.d (momM C ps fr z sets)), some (.d (.int i)), some (.d (.int p)), some (.d (tu (ixr sets i)))] = .ok (.bool (decide (sortI (ixr sets i ++ [p]) ∈ ks))) :=
      (two_of ((arg_of (m := m_put_in) (cons_of (f := dVar 3) rfl (cons_of (f := dVar 2) (g := dNil) rfl rfl))).trans (v_put_in _ p (by omega))) ((two_of (at_of (g := dVar 0) rfl fld_free) (g := dVar 1) rfl).trans (ix_ld i0 hk))).trans (oInT_tu _ _)
    rw [ret_of (and_V q1 q2), free_dec iff (show Asc n (sortI (ixr sets i ++ [p])) from larger_asc M (m := (i, none, p)) ⟨i0, i1, fun _ h => (by cases h), p0, p1⟩ hp)]
    rfl
theorem room65 (G : Game n ps) {i x : Int} (i0 : 0 ≤ i) (i1 : i < (ps.length : Int)) (x0 : 0 ≤ x) (x1 : x < n) : x < ((plx ps i).C.length : Int) ∧ (ps.length : Int) ≤ ((ixr (plx ps i).C x).length : Int) := by
  have hp := plx_mem i0 i1
  have rows := G.rows _ hp
  refine ⟨by omega, ?_⟩
  have := G.room _ hp (ixr (plx ps i).C x) (ixr_mem65 x0 (by omega))
  rwa [sum_one G.one] at this
theorem v_cost_next (G : Game n ps) (hz : z = n) {i x : Int} (i0 : 0 ≤ i) (i1 : i < (ps.length : Int)) (x0 : 0 ≤ x) (x1 : x < n) (k1 : load sets x + 1 ≤ (ps.length : Int)) : m_Moment_cost_next C [momM C ps fr z sets, .int i, .int x] = .ok (.int (costM ps sets i x 1)) := by
  obtain ⟨r1, r2⟩ := room65 G i0 i1 x0 x1
  have l0 := load_le (ch := sets) (x := x)
  show endR (g_Moment_cost_next C [some (.d (momM C ps fr z sets)), some (.d (.int i)), some (.d (.int x))]) = _
  have e1 : dTwo oIx (dAt C "costs" (dVar 0)) (dVar 1) [some (.d (momM C ps fr z sets)), some (.d (.int i)), some (.d (.int x))] = .ok (tt (plx ps i).C) := (two_of (at_of (g := dVar 0) rfl fld_costs) (g := dVar 1) rfl).trans (ix_costs i0 i1)
  have e2 : dTwo oAdd (dTwo oIx (dAt C "counts" (dVar 0)) (dVar 2)) (dC (.int 1)) [some (.d (momM C ps fr z sets)), some (.d (.int i)), some (.d (.int x))] = .ok (.int (load sets x + 1)) := (two_of ((two_of (at_of (g := dVar 0) rfl fld_counts) (g := dVar 2) rfl).trans (ix_counts x0 (by omega))) (g := dC (.int 1)) rfl).trans (oAdd_int _ _)
  unfold g_Moment_cost_next
  rw [ret_of ((arg_of (m := m_cost_at) (cons_of e1 (cons_of (f := dVar 2) rfl (cons_of (g := dNil) e2 rfl)))).trans (v_cost_at _ x _ x0 r1 (by omega) (by omega)))]
  rfl
theorem v_cost_now (G : Game n ps) (hz : z = n) {i x : Int} (i0 : 0 ≤ i) (i1 : i < (ps.length : Int)) (x0 : 0 ≤ x) (x1 : x < n) (k0 : 1 ≤ load sets x) (k1 : load sets x ≤ (ps.length : Int)) : m_Moment_cost_now C [momM C ps fr z sets, .int i, .int x] = .ok (.int (costM ps sets i x 0)) := by
  obtain ⟨r1, r2⟩ := room65 G i0 i1 x0 x1
  show endR (g_Moment_cost_now C [some (.d (momM C ps fr z sets)), some (.d (.int i)), some (.d (.int x))]) = _
  have e1 : dTwo oIx (dAt C "costs" (dVar 0)) (dVar 1) [some (.d (momM C ps fr z sets)), some (.d (.int i)), some (.d (.int x))] = .ok (tt (plx ps i).C) := (two_of (at_of (g := dVar 0) rfl fld_costs) (g := dVar 1) rfl).trans (ix_costs i0 i1)
  have e2 : dTwo oIx (dAt C "counts" (dVar 0)) (dVar 2) [some (.d (momM C ps fr z sets)), some (.d (.int i)), some (.d (.int x))] = .ok (.int (load sets x)) := (two_of (at_of (g := dVar 0) rfl fld_counts) (g := dVar 2) rfl).trans (ix_counts x0 (by omega))
  have e3 : costM ps sets i x 0 = cost (plx ps i).C x (load sets x) := by unfold costM; rw [Int.add_zero]
  unfold g_Moment_cost_now
  rw [ret_of ((arg_of (m := m_cost_at) (cons_of e1 (cons_of (f := dVar 2) rfl (cons_of (g := dNil) e2 rfl)))).trans (v_cost_at _ x _ x0 r1 (by omega) (by omega))), e3]
  rfl
theorem v_can_exchange (G : Game n ps) (M : Mom n ps sets) (F : FrOk n ps fr) (hz : z = n) {i o p : Int} (i0 : 0 ≤ i) (i1 : i < (ps.length : Int)) (o0 : 0 ≤ o) (o1 : o < n) (p0 : 0 ≤ p) (p1 : p < n) : m_Moment_can_exchange C [momM C ps fr z sets, .int i, .int o, .int p] = .ok (.bool (decide (o ∈ ixr sets i) && (!decide (p ∈ ixr sets i) && (lawFree (plx ps i).ls (exch (ixr sets i) o p) && decide (costM ps sets i p 1 < costM ps sets i o 0))))) := by
  obtain ⟨ks, hk, iff⟩ := F.at_ i i0 i1
  have al := (M.asc i0 i1).len
  have n1 := G.n1
  show endR (g_Moment_can_exchange C [some (.d (momM C ps fr z sets)), some (.d (.int i)), some (.d (.int o)), some (.d (.int p)), none]) = _
  have s1 : gSet (dTwo oIx (dAt C "sets" (dVar 0)) (dVar 1)) (.nm 4) [some (.d (momM C ps fr z sets)), some (.d (.int i)), some (.d (.int o)), some (.d (.int p)), none] = .nx [some (.d (momM C ps fr z sets)), some (.d (.int i)), some (.d (.int o)), some (.d (.int p)), some (.d (tu (ixr sets i)))] :=
    set_of ((two_of (at_of (g := dVar 0) rfl fld_sets) (g := dVar 1) rfl).trans (ix_sets M i0 i1)) (set_nm _ _ _)
  generalize hρ : ([some (.d (momM C ps fr z sets)), some (.d (.int i)), some (.d (.int o)), some (.d (.int p)), some (.d (tu (ixr sets i)))] : Rho) = ρ at s1
  have v0 : dVar 0 ρ = .ok (momM C ps fr z sets) := by rw [← hρ]; rfl
  have v1 : dVar 1 ρ = .ok (.int i) := by rw [← hρ]; rfl
  have v2 : dVar 2 ρ = .ok (.int o) := by rw [← hρ]; rfl
  have v3 : dVar 3 ρ = .ok (.int p) := by rw [← hρ]; rfl
  have v4 : dVar 4 ρ = .ok (tu (ixr sets i)) := by rw [← hρ]; rfl
  have q1 := asB_of ((two_of (u := oNotIn) v2 v4).trans (oNotIn_tu _ _))
  have q2 := asB_of ((two_of (u := oIn) v3 v4).trans (oIn_tu _ _))
  have q3 := asB_of ((two_of (u := oNotInT) ((arg_of (m := m_exchange) (cons_of v4 (cons_of v2 (cons_of (g := dNil) v3 rfl)))).trans (v_exchange _ o p (by omega))) ((two_of (u := oIx) (at_of (C := C) v0 fld_free) v1).trans (ix_ld i0 hk))).trans (oNotInT_tu _ _))
  unfold g_Moment_can_exchange
  rw [seq_of s1]
  by_cases ho : o ∈ ixr sets i
  · rw [decide_eq_true ho] at q1 ⊢
    by_cases hp : p ∈ ixr sets i
    · rw [decide_eq_true hp] at q2 ⊢
      rw [seq_rt (gIf_ret (or_f q1 (or_t q2)))]
      rfl
    · rw [decide_eq_false hp] at q2 ⊢
      have R : InR n ps (i, some o, p) := ⟨i0, i1, fun x h => by cases h; exact ⟨o0, o1⟩, p0, p1⟩
      rw [free_dec iff (show Asc n (exch (ixr sets i) o p) from larger_asc M R hp)] at q3
      by_cases hf : lawFree (plx ps i).ls (exch (ixr sets i) o p) = true
      · have q3 : _ = PD.R.ok (!lawFree (plx ps i).ls (exch (ixr sets i) o p)) := q3
        rw [hf] at q3 ⊢
        obtain ⟨a1, a2⟩ := lt_out M R hp
        obtain ⟨b1, b2⟩ := pos_out M R ho
        have c1 := v_cost_next (C := C) (fr := fr) (sets := sets) G hz i0 i1 p0 p1 a1
        have c2 := v_cost_now (C := C) (fr := fr) (sets := sets) G hz i0 i1 o0 o1 b1 b2
        have q4 := (two_of (u := oLt) ((meth_of (nm := "cost_next") (m := m_Moment_cost_next C) v0 (recv_mom "cost_next") (cons_of v1 (cons_of (g := dNil) v3 rfl))).trans c1) ((meth_of (nm := "cost_now") (m := m_Moment_cost_now C) v0 (recv_mom "cost_now") (cons_of v1 (cons_of (g := dNil) v2 rfl))).trans c2)).trans (oLt_int _ _)
        rw [seq_of (gIf_skip (or_ff q1 (or_ff q2 q3))), ret_of q4]
        rfl
      · rw [Bool.not_eq_true] at hf
        have q3 : _ = PD.R.ok (!lawFree (plx ps i).ls (exch (ixr sets i) o p)) := q3
        rw [hf] at q3 ⊢
        rw [seq_rt (gIf_ret (or_f q1 (or_f q2 q3)))]
        rfl
  · rw [decide_eq_false ho] at q1 ⊢
    rw [seq_rt (gIf_ret (or_t q1))]
    rfl
theorem v_is_allowed (G : Game n ps) (M : Mom n ps sets) (F : FrOk n ps fr) (hz : z = n) {m : Mv65} (R : InR n ps m) : m_Moment_is_allowed C [momM C ps fr z sets, mvD65 m] = .ok (.bool (stp ps sets m).isSome) := by
  obtain ⟨i, out, p⟩ := m
  have i0 : 0 ≤ i := R.i0
  have i1 : i < (ps.length : Int) := R.i1
  have p0 : 0 ≤ p := R.p0
  have p1 : p < n := R.p1
  have n1 := G.n1
  show endR (g_Moment_is_allowed C [some (.d (momM C ps fr z sets)), some (.d (mvD65 (i, out, p))), none, none, none]) = _
  have s1 : gSet (dVar 1) (.tp [(.nm 2), (.nm 3), (.nm 4)]) [some (.d (momM C ps fr z sets)), some (.d (mvD65 (i, out, p))), none, none, none] = .nx [some (.d (momM C ps fr z sets)), some (.d (mvD65 (i, out, p))), some (.d (.int i)), some (.d (oI out)), some (.d (.int p))] := set_of (d := mvD65 (i, out, p)) rfl (by simp [mvD65, Tg.set, Tg.sets])
  unfold g_Moment_is_allowed
  rw [seq_of s1]
  cases out with
  | none =>
    have q1 : dAsB (dOne (fun d => .ok (.bool (isNone d))) (dVar 3)) [some (.d (momM C ps fr z sets)), some (.d (mvD65 (i, none, p))), some (.d (.int i)), some (.d (oI none)), some (.d (.int p))] = .ok true := rfl
    have e := (meth_of (C := C) (nm := "can_add") (m := m_Moment_can_add C) (g := dVar 0) (gl := dCons (dVar 2) (dCons (dVar 4) dNil)) (ρ := [some (.d (momM C ps fr z sets)), some (.d (mvD65 (i, none, p))), some (.d (.int i)), some (.d (oI none)), some (.d (.int p))]) rfl (recv_mom "can_add") rfl).trans (v_can_add M F (by omega) i0 i1 p0 p1)
    rw [ret_of ((ife_t q1).trans e)]
    show PD.R.ok (PyData.bool _) = _
    congr 2
    unfold stp
    by_cases hp : p ∈ ixr sets i
    · rw [if_pos hp, decide_eq_true hp]; rfl
    · rw [if_neg hp, decide_eq_false hp, if_pos (show okOut ps sets (i, none, p) = true from rfl)]
      show (true && lawFree (plx ps i).ls (sortI (ixr sets i ++ [p]))) = _
      by_cases hf : lawFree (plx ps i).ls (larger (ixr sets i) none p) = true
      · rw [if_pos hf]; exact (Bool.true_and _).trans hf
      · rw [if_neg hf, Bool.not_eq_true] at *; exact (Bool.true_and _).trans hf
  | some o =>
    obtain ⟨o0, o1⟩ := R.o o rfl
    have q1 : dAsB (dOne (fun d => .ok (.bool (isNone d))) (dVar 3)) [some (.d (momM C ps fr z sets)), some (.d (mvD65 (i, some o, p))), some (.d (.int i)), some (.d (oI (some o))), some (.d (.int p))] = .ok false := rfl
    have e := (meth_of (C := C) (nm := "can_exchange") (m := m_Moment_can_exchange C) (g := dVar 0) (gl := dCons (dVar 2) (dCons (dVar 3) (dCons (dVar 4) dNil))) (ρ := [some (.d (momM C ps fr z sets)), some (.d (mvD65 (i, some o, p))), some (.d (.int i)), some (.d (oI (some o))), some (.d (.int p))]) rfl (recv_mom "can_exchange") rfl).trans (v_can_exchange (o := o) G M F hz i0 i1 o0 o1 p0 p1)
    rw [ret_of ((ife_f q1).trans e)]
    show PD.R.ok (PyData.bool _) = _
    congr 2
    have okE : okOut ps sets (i, some o, p) = (decide (o ∈ ixr sets i) && decide (costM ps sets i p 1 < costM ps sets i o 0)) := rfl
    unfold stp
    rw [okE]
    show (decide (o ∈ ixr sets i) && (!decide (p ∈ ixr sets i) && (lawFree (plx ps i).ls (exch (ixr sets i) o p) && decide (costM ps sets i p 1 < costM ps sets i o 0)))) = (if p ∈ ixr sets i then none else if (decide (o ∈ ixr sets i) && decide (costM ps sets i p 1 < costM ps sets i o 0)) = true then (if lawFree (plx ps i).ls (exch (ixr sets i) o p) = true then some (withL sets i (exch (ixr sets i) o p)) else none) else none : Option (List (List Int))).isSome
    generalize lawFree (plx ps i).ls (exch (ixr sets i) o p) = b1
    generalize decide (costM ps sets i p 1 < costM ps sets i o 0) = b2
    by_cases hp : p ∈ ixr sets i <;> by_cases ho : o ∈ ixr sets i <;> cases b1 <;> cases b2 <;> simp [hp, ho]
end
end LW
set_option Elab.async false
set_option linter.all false
set_option maxRecDepth 100000
set_option maxHeartbeats 4000000
namespace LW
open PySem PySem.Spec PyProof.Rows L2 PD
theorem roSeq {g h : SO} {ρ ρ1 : RhoO} {S S1 : Store} (e : g ρ S = .nx ρ1 S1) : sSeq g h ρ S = h ρ1 S1 := by rw [ev_sSeq, e]; rfl
theorem roSet {f : EO} {t : Tg} {ρ ρ1 : RhoO} {S S1 : Store} {x : Vl} (e : f ρ S = .ok x S1) (h : t.setO x ρ = some ρ1) : sSet f t ρ S = .nx ρ1 S1 := by rw [ev_sSet, e, oRO_ok, h]; rfl
theorem roRet {f : EO} {ρ : RhoO} {S S1 : Store} {x : Vl} (e : f ρ S = .ok x S1) : sRet f ρ S = .rt x S1 := by rw [ev_sRet, e, oRO_ok]
theorem roExpr {f : EO} {ρ : RhoO} {S S1 : Store} {x : Vl} (e : f ρ S = .ok x S1) : sExpr f ρ S = .nx ρ S1 := by rw [ev_sExpr, e, oRO_ok]
theorem roIf_t {c : EOB} {g h : SO} {ρ : RhoO} {S S1 : Store} (e : c ρ S = .ok true S1) : sIf c g h ρ S = g ρ S1 := by rw [ev_sIf, e, oRO_ok, if_pos rfl]
theorem roIf_f {c : EOB} {g h : SO} {ρ : RhoO} {S S1 : Store} (e : c ρ S = .ok false S1) : sIf c g h ρ S = h ρ S1 := by rw [ev_sIf, e, oRO_ok, if_neg (by decide)]
theorem roMask {f : Dn} {ρ : RhoO} {S : Store} {d : PyData} (e : f (maskR ρ) = .ok d) : oMask f ρ S = .ok (.p d) S := by rw [ev_oMask, e]; rfl
theorem roMaskI {f : DnL} {ρ : RhoO} {S : Store} {ds : List PyData} (e : f (maskR ρ) = .ok ds) : oMaskI f ρ S = .ok ds S := by rw [ev_oMaskI, e]; rfl
theorem roMaskL {f : Dn} {ρ : RhoO} {S : Store} {ds : List PyData} (e : f (maskR ρ) = .ok (.list ds)) : oMaskL f ρ S = .ok (.rf S.length) (S ++ [.lst (ds.map .p)]) := by unfold oMaskL; rw [e]
theorem roSnap {f : Dn} {ρ : RhoO} {S : Store} {d : PyData} (e : f (snapR S ρ) = .ok d) (h : noMut d = true) : oSnap f ρ S = .ok (.p d) S := by unfold oSnap; rw [e]; dsimp only; rw [if_pos h]
theorem roSnapB {f : DnB} {ρ : RhoO} {S : Store} {b : Bool} (e : f (snapR S ρ) = .ok b) : oSnapB f ρ S = .ok b S := by unfold oSnapB; rw [e]
theorem roVar {i : Nat} {ρ : RhoO} {S : Store} {x : Vl} (e : ρ[i]? = some (some x)) : oVar i ρ S = .ok x S := by rw [ev_oVar, e]; rfl
theorem roFld {C : Addr} {f : Str} {g : EO} {ρ : RhoO} {S S1 : Store} {x y : Vl} (e : g ρ S = .ok x S1) (h : fldV C f x S1 = some y) : oFld C f g ρ S = .ok y S1 := by rw [ev_oFld, e, RO.bind_ok, h]; rfl
theorem roIx {g h : EO} {ρ : RhoO} {S S1 S2 : Store} {x y z : Vl} (e : g ρ S = .ok x S1) (e2 : h ρ S1 = .ok y S2) (i : ixV x y S2 = some z) : oIxO g h ρ S = .ok z S2 := by rw [ev_oIxO, e, RO.bind_ok, e2, RO.bind_ok, i]; rfl
theorem roNil {ρ : RhoO} {S : Store} : oNil ρ S = .ok [] S := rfl
theorem roCons {g : EO} {h : EOL} {ρ : RhoO} {S S1 S2 : Store} {x : Vl} {xs : List Vl} (e : g ρ S = .ok x S1) (e2 : h ρ S1 = .ok xs S2) : oCons g h ρ S = .ok (x :: xs) S2 := by rw [ev_oCons, e, RO.bind_ok, e2, RO.bind_ok]
theorem roArg {m : MO} {g : EOL} {ρ : RhoO} {S S1 : Store} {xs : List Vl} (e : g ρ S = .ok xs S1) : oArg m g ρ S = m xs S1 := by rw [ev_oArg, e, RO.bind_ok]
theorem roMeth {C : Addr} {nm : Str} {m : MO} {g : EO} {h : EOL} {ρ : RhoO} {S S1 S2 : Store} {x : Vl} {xs : List Vl} (e : g ρ S = .ok x S1) (r : isRecv C nm x S1 = true) (e2 : h ρ S1 = .ok xs S2) : oMeth C nm m g (oDfl [] h) ρ S = m (x :: xs) S2 := by
  unfold oMeth oDfl
  rw [e, RO.bind_ok, if_pos r, e2, RO.bind_ok, RO.bind_ok]
  show m (x :: (xs ++ [])) S2 = _
  rw [List.append_nil]
theorem roMake {C : Addr} {m : MO} {h : EOL} {ρ : RhoO} {S S1 S2 : Store} {xs : List Vl} (e : h ρ S = .ok xs S1) (e2 : m (.rf S1.length :: xs) (S1 ++ [.ins C []]) = .ok (.p .none) S2) : oMake C m h ρ S = .ok (.rf S1.length) S2 := by
  unfold oMake
  rw [e, RO.bind_ok, e2]
theorem roFldS {C : Addr} {f : Str} {go ge : EO} {ρ : RhoO} {S S1 S2 S3 : Store} {x y : Vl} (e1 : ge ρ S = .ok y S1) (e2 : go ρ S1 = .ok x S2) (h : putFld C f x y S2 = some S3) : sFldS C f go ge ρ S = .nx ρ S3 := by
  unfold sFldS
  rw [e1, oRO_ok, e2, oRO_ok, h]
theorem roRun {n p : Nat} {g : SO} {xs : List Vl} {S : Store} (h : xs.length = p) : runO n p g xs S = endO (g (startO n xs) S) := if_pos h
theorem ixN_of {len : Nat} {i : Int} (h0 : 0 ≤ i) (h1 : i < (len : Int)) : ixN len i = some i.toNat := by
  unfold ixN
  rw [if_pos h0, if_pos (by omega)]
theorem put_of {C : Addr} {f : Str} {l : Nat} {y : Vl} {S : Store} {fs fs2 : List (Str × Vl)} (h : S[l]? = some (.ins C fs)) (hl : fs.length < 1000) (e : putFl f y fs = fs2) : putFld C f (.rf l) y S = some (S.set l (.ins C fs2)) := by
  unfold putFld
  dsimp only
  rw [h]
  dsimp only
  rw [if_pos ⟨rfl, hl⟩, e]
theorem lst_of {l : Nat} {S : Store} {xs : List Vl} (h : S[l]? = some (.lst xs)) : lstV (.rf l) S = some (l, xs) := by
  unfold lstV
  dsimp only
  rw [h]
theorem roSetAt {go gi ge : EO} {ρ : RhoO} {S S1 S2 S3 : Store} {x y : Vl} {l : Nat} {xs : List Vl} {k : Int} (e1 : ge ρ S = .ok y S1) (e2 : go ρ S1 = .ok x S2) (e3 : gi ρ S2 = .ok (.p (.int k)) S3) (h : lstV x S3 = some (l, xs)) (k0 : 0 ≤ k) (k1 : k < (xs.length : Int)) : sSetAt go gi ge ρ S = .nx ρ (S3.set l (.lst (xs.set k.toNat y))) := by
  unfold sSetAt
  rw [e1, oRO_ok, e2, oRO_ok, e3, oRO_ok, h]
  dsimp only
  rw [ixN_of k0 k1]
theorem roAugAtI {u : Int → Int → Int} {go gi ge : EO} {ρ : RhoO} {S S1 S2 S3 : Store} {x : Vl} {l : Nat} {xs : List Vl} {k z w : Int} (e1 : go ρ S = .ok x S1) (e2 : gi ρ S1 = .ok (.p (.int k)) S2) (h : lstV x S2 = some (l, xs)) (k0 : 0 ≤ k) (hz : xs[k.toNat]? = some (.p (.int z))) (e3 : ge ρ S2 = .ok (.p (.int w)) S3) (h3 : lstV x S3 = some (l, xs)) : sAugAtI u go gi ge ρ S = .nx ρ (S3.set l (.lst (xs.set k.toNat (.p (.int (u z w)))))) := by
  have kl : k.toNat < xs.length := (List.getElem?_eq_some_iff.mp hz).1
  have at_ : atI xs k = some (.p (.int z)) := by
    unfold atI
    rw [ixN_of k0 (by omega)]
    exact hz
  unfold sAugAtI
  rw [e1, oRO_ok, e2, oRO_ok, h]
  dsimp only
  rw [at_]
  dsimp only
  rw [e3, oRO_ok, h3]
  dsimp only
  rw [ixN_of k0 (by omega)]
theorem augAt_eq (go gi ge : EO) : sAugAt go gi ge = sAugAtI (fun i j => i + j) go gi ge := rfl
section
variable {C : Addr} {n z : Int} {ps : List Pl} {fr : List PyData} {sets : List (List Int)}
theorem load_cons65 (l : List Int) (L : List (List Int)) (x : Int) : load (l :: L) x = (if x ∈ l then 1 else 0) + load L x := by
  unfold load
  rw [List.filter_cons]
  by_cases h : x ∈ l
  · rw [if_pos (decide_eq_true h), if_pos h, List.length_cons]; omega
  · rw [if_neg (by simpa using h), if_neg h]; omega
theorem load_set : ∀ (L : List (List Int)) (k : Nat) (l : List Int) (x : Int) (hk : k < L.length), load (L.set k l) x = load L x - (if x ∈ L[k] then 1 else 0) + (if x ∈ l then 1 else 0)
  | [], k, _, _, h => by simp at h
  | r :: L, 0, l, x, _ => by
    rw [List.set_cons_zero, load_cons65, load_cons65]
    simp only [List.getElem_cons_zero]
    omega
  | r :: L, k + 1, l, x, h => by
    rw [List.set_cons_succ, load_cons65, load_cons65, load_set L k l x (by simpa using h)]
    simp only [List.getElem_cons_succ]
    omega
theorem load_withL {i : Int} {l : List Int} (i0 : 0 ≤ i) (i1 : i < (sets.length : Int)) (x : Int) : load (withL sets i l) x = load sets x - (if x ∈ ixr sets i then 1 else 0) + (if x ∈ l then 1 else 0) := by
  have h : i.toNat < sets.length := by omega
  have e : ixr sets i = sets[i.toNat] := by
    unfold ixr
    rw [List.getElem?_eq_getElem h]
    rfl
  unfold withL
  rw [load_set sets _ l x h, e]
theorem set_rng65 {f : Int → Int} {x v : Int} (x0 : 0 ≤ x) (x1 : x < z) : ((rangeI 0 z).map f).set x.toNat v = (rangeI 0 z).map fun y => if y = x then v else f y := by
  refine List.ext_getElem? fun k => ?_
  rw [List.getElem?_set, List.getElem?_map, List.getElem?_map]
  by_cases hk : k < (rangeI 0 z).length
  · have hz : k < z.toNat := by rw [rng_len] at hk; exact hk
    rw [rangeI_get (by omega)]
    by_cases e : x.toNat = k
    · rw [if_pos e, if_pos (by rw [List.length_map]; omega)]
      simp only [Option.map_some, Option.some.injEq]
      rw [if_pos (by omega)]
    · rw [if_neg e]
      simp only [Option.map_some, Option.some.injEq]
      rw [if_neg (by omega)]
  · rw [List.getElem?_eq_none (by omega)]
    by_cases e : x.toNat = k
    · rw [if_pos e, if_neg (by rw [List.length_map]; omega)]; rfl
    · rw [if_neg e]; rfl
theorem app_set0 {S0 m : Store} {c : Cell} : (S0 ++ m).set S0.length c = S0 ++ m.set 0 c := app_set (k := 0)
/-- the moment that these sets make, in the store -/
def momT (C : Addr) (b : Nat) (ps : List Pl) (fr : List PyData) (z : Int) (sets : List (List Int)) : Store := momS C b ps fr sets ((rangeI 0 z).map (load sets))
theorem fldV_mom {S0 : Store} {f : Str} {k : Nat} (h : ([("costs", 1), ("free", 2), ("sets", 3), ("counts", 4)] : List (Str × Nat)).lookup f = some k) {cnt : List Int} : fldV C f (.rf S0.length) (S0 ++ momS C S0.length ps fr sets cnt) = some (.rf (S0.length + k)) := by
  have g0 : (S0 ++ momS C S0.length ps fr sets cnt)[S0.length]? = some (.ins C [("costs", .rf (S0.length + 1)), ("free", .rf (S0.length + 2)), ("sets", .rf (S0.length + 3)), ("counts", .rf (S0.length + 4))]) := app_get0
  unfold fldV
  dsimp only
  rw [g0]
  dsimp only
  rw [if_pos rfl]
  simp only [List.lookup] at h ⊢
  split at h <;> simp_all <;> (split at h <;> simp_all) <;> (split at h <;> simp_all) <;> (split at h <;> simp_all)
theorem recvV_mom {S0 : Store} {m : Str} (h : m ≠ "costs" ∧ m ≠ "free" ∧ m ≠ "sets" ∧ m ≠ "counts" := by decide +kernel) {cnt : List Int} : isRecv C m (.rf S0.length) (S0 ++ momS C S0.length ps fr sets cnt) = true := by
  have g0 : (S0 ++ momS C S0.length ps fr sets cnt)[S0.length]? = some (.ins C [("costs", .rf (S0.length + 1)), ("free", .rf (S0.length + 2)), ("sets", .rf (S0.length + 3)), ("counts", .rf (S0.length + 4))]) := app_get0
  have q : ∀ a b : Str, a ≠ b → (a == b) = false := fun a b h => by rw [beq_eq_false_iff_ne]; exact h
  unfold isRecv
  dsimp only
  rw [g0]
  simp [List.lookup, q _ _ h.1, q _ _ h.2.1, q _ _ h.2.2.1, q _ _ h.2.2.2]
theorem lst_sets {S0 : Store} {cnt : List Int} : lstV (.rf (S0.length + 3)) (S0 ++ momS C S0.length ps fr sets cnt) = some (S0.length + 3, sets.map fun l => .p (tu l)) := lst_of app_get
theorem lst_counts {S0 : Store} {cnt : List Int} : lstV (.rf (S0.length + 4)) (S0 ++ momS C S0.length ps fr sets cnt) = some (S0.length + 4, cnt.map fun i => .p (.int i)) := lst_of app_get
theorem set_sets {S0 : Store} {cnt : List Int} {k : Nat} {l : List Int} : (S0 ++ momS C S0.length ps fr sets cnt).set (S0.length + 3) (.lst ((sets.map fun l => Vl.p (tu l)).set k (.p (tu l)))) = S0 ++ momS C S0.length ps fr (sets.set k l) cnt := by
  rw [app_set, ← List.map_set (f := fun l => Vl.p (tu l))]
  rfl
theorem set_counts {S0 : Store} {cnt : List Int} {k : Nat} {v : Int} : (S0 ++ momS C S0.length ps fr sets cnt).set (S0.length + 4) (.lst ((cnt.map fun i => Vl.p (.int i)).set k (.p (.int v)))) = S0 ++ momS C S0.length ps fr sets (cnt.set k v) := by
  rw [app_set, ← List.map_set (f := fun i => Vl.p (.int i))]
  rfl
end
end LW
set_option Elab.async false
set_option linter.all false
set_option maxRecDepth 100000
set_option maxHeartbeats 4000000
namespace LW
open PySem PySem.Spec PyProof.Rows L2 PD
section
variable {C : Addr} {n z : Int} {ps : List Pl} {fr : List PyData} {sets : List (List Int)}
/-- counting -/
theorem counts_lc {T : PyData} {x2 x3 : Option Sl} (hT : items T = .ok (sets.map tu)) (z0 : 0 ≤ z) (z9 : z ≤ 900) (hl : sets.length ≤ 900) : dLc (dRng1 (dCons (dVar 0) dNil)) (.nm 2) dYes (dArg bLen (dCons (dLc (dItems (dVar 1)) (.nm 3) (dAsB (dTwo oIn (dVar 2) (dVar 3))) (dVar 3) [3]) dNil)) [2] [some (.d (.int z)), some (.d T), x2, x3] = .ok (li ((rangeI 0 z).map (load sets))) := by
  have lc := lc_of (enc := PyData.int) (fi := dRng1 (dCons (dVar 0) dNil)) (t := .nm 2) (ft := dYes) (fe := dArg bLen (dCons (dLc (dItems (dVar 1)) (.nm 3) (dAsB (dTwo oIn (dVar 2) (dVar 3))) (dVar 3) [3]) dNil)) (vs := [2]) (ρ := [some (.d (.int z)), some (.d T), x2, x3]) (xs := rangeI 0 z) (st := fun x => [some (.d (.int z)), some (.d T), some (.d (.int x)), x3]) (q := fun _ => true) (g := fun x => PyData.int (load sets x)) (by
      show rngA1 [.int z] = _
      exact rngA1_ok (by omega) (by omega)) (fun x _ => ⟨rfl, rfl, fun _ => by
      have l2 := lc_of (enc := tu) (fi := dItems (dVar 1)) (t := .nm 3) (ft := dAsB (dTwo oIn (dVar 2) (dVar 3))) (fe := dVar 3) (vs := [3]) (ρ := [some (.d (.int z)), some (.d T), some (.d (.int x)), x3]) (xs := sets) (st := fun l => [some (.d (.int z)), some (.d T), some (.d (.int x)), some (.d (tu l))]) (q := fun l => decide (x ∈ l)) (g := tu) (by
          rw [ev_items, show dVar 1 _ = PD.R.ok T from rfl, R.bind_ok, hT]) (fun l _ => ⟨rfl, asB_of ((two_of rfl rfl).trans (oIn_tu x l)), fun _ => rfl⟩)
      exact (arg_of (m := bLen) (cons_of (g := dNil) l2 rfl)).trans (bLen_lt _)⟩)
  rw [List.filter_eq_self.mpr (fun _ _ => rfl), li_eq'] at lc
  rw [lc]
theorem o_counts {T : PyData} {S : Store} (hT : items T = .ok (sets.map tu)) (z0 : 0 ≤ z) (z9 : z ≤ 900) (hl : sets.length ≤ 900) : o_count_sets [.p (.int z), .p T] S = .ok (.rf S.length) (S ++ [.lst (((rangeI 0 z).map (load sets)).map fun i => .p (.int i))]) := by
  unfold o_count_sets
  rw [roRun (p := 2) (by rfl)]
  have e := counts_lc (x2 := none) (x3 := none) hT z0 z9 hl
  have r := roMaskL (S := S) (ρ := startO 4 [.p (.int z), .p T]) (ds := ((rangeI 0 z).map (load sets)).map .int) e
  rw [roRet r, List.map_map]
  rfl
/-- all offers' free sets -/
theorem free_all (good : ∀ p ∈ ps, Good n p.ls) (n0 : 0 ≤ n) (n12 : n ≤ 12) : ∃ Fd : Pl → PyData, (∀ p ∈ ps, m_free_sets [ofr n p.ls] = .ok (Fd p)) ∧ FrOk n ps (ps.map Fd) := by
  have ex : ∀ p : Pl, ∃ D : PyData, p ∈ ps → m_free_sets [ofr n p.ls] = .ok D ∧ ∃ ks : List (List Int), D = .dict (ks.map keyD) ∧ ∀ k, k ∈ ks ↔ Free n p.ls k := fun p => by
    by_cases h : p ∈ ps
    · obtain ⟨ks, e, _, h2, _⟩ := v_free_sets n p.ls n0 n12 (good p h)
      exact ⟨_, fun _ => ⟨e, ks, rfl, h2⟩⟩
    · exact ⟨.none, fun h2 => absurd h2 h⟩
  obtain ⟨Fd, hF⟩ := Classical.axiomOfChoice ex
  refine ⟨Fd, fun p hp => (hF p hp).1, List.length_map _, fun i i0 i1 => ?_⟩
  have h : i.toNat < ps.length := by omega
  have e : plx ps i = ps[i.toNat] := by unfold plx; rw [List.getElem?_eq_getElem h]; rfl
  obtain ⟨_, ks, h1, h2⟩ := hF _ (plx_mem i0 i1)
  refine ⟨ks, ?_, h2⟩
  rw [List.getElem?_map, List.getElem?_eq_getElem h, ← e, ← h1]
  rfl
/-- a new moment -/
theorem v_init {T : PyData} {S0 : Store} {Fd : Pl → PyData} (hF : ∀ p ∈ ps, m_free_sets [ofr n p.ls] = .ok (Fd p)) (hT : items T = .ok (sets.map tu)) (z0 : 0 ≤ z) (z9 : z ≤ 900) (hl : sets.length ≤ 900) (hp : ps.length ≤ 900) : m_Moment___init__ C [.rf S0.length, .p (.int z), .p (gmD n ps), .p T] (S0 ++ [.ins C []]) = .ok (.p .none) (S0 ++ momT C S0.length ps (ps.map Fd) z sets) := by
  unfold m_Moment___init__
  rw [roRun (p := 4) (by rfl)]
  have ρe : startO 7 [Vl.rf S0.length, .p (.int z), .p (gmD n ps), .p T] = [some (.rf S0.length), some (.p (.int z)), some (.p (gmD n ps)), some (.p T), none, none, none] := rfl
  have me : maskR [some (Vl.rf S0.length), some (.p (.int z)), some (.p (gmD n ps)), some (.p T), none, none, none] = [none, some (.d (.int z)), some (.d (gmD n ps)), some (.d T), none, none, none] := rfl
  rw [ρe]
  have l1 := lc_of (enc := tkD n) (fi := dItems (dVar 2)) (t := .tp [(.nm 4), (.nm 5)]) (ft := dYes) (fe := dVar 5) (vs := [4, 5]) (ρ := [none, some (.d (.int z)), some (.d (gmD n ps)), some (.d T), none, none, none]) (xs := ps) (st := fun p => [none, some (.d (.int z)), some (.d (gmD n ps)), some (.d T), some (.d (ofr n p.ls)), some (.d (tt p.C)), none]) (q := fun _ => true) (g := fun p => tt p.C) rfl (fun p _ => ⟨set_tp2 4 5 _ _ _, rfl, fun _ => rfl⟩)
  rw [List.filter_eq_self.mpr (fun _ _ => rfl)] at l1
  have l2 := lc_of (enc := tkD n) (fi := dItems (dVar 2)) (t := .tp [(.nm 6), (.nm 4)]) (ft := dYes) (fe := dArg m_free_sets (dCons (dVar 6) dNil)) (vs := [6, 4]) (ρ := [none, some (.d (.int z)), some (.d (gmD n ps)), some (.d T), none, none, none]) (xs := ps) (st := fun p => [none, some (.d (.int z)), some (.d (gmD n ps)), some (.d T), some (.d (tt p.C)), none, some (.d (ofr n p.ls))]) (q := fun _ => true) (g := Fd) rfl (fun p hp => ⟨set_tp2 6 4 _ _ _, rfl, fun _ => (arg_of (m := m_free_sets) (cons_of (f := dVar 6) (g := dNil) rfl rfl)).trans (hF p hp)⟩)
  rw [List.filter_eq_self.mpr (fun _ _ => rfl)] at l2
  have l3 : dArg bList (dCons (dVar 3) dNil) [none, some (.d (.int z)), some (.d (gmD n ps)), some (.d T), none, none, none] = .ok (.list (sets.map tu)) := by
    rw [arg_of (m := bList) (cons_of (f := dVar 3) (g := dNil) (show dVar 3 _ = PD.R.ok T from rfl) rfl)]
    show (items T >>= fun ds => PD.R.ok (PyData.list ds)) = _
    rw [hT]
    rfl
  have self : ∀ S : Store, oVar 0 [some (Vl.rf S0.length), some (.p (.int z)), some (.p (gmD n ps)), some (.p T), none, none, none] S = .ok (.rf S0.length) S := fun S => roVar rfl
  have s1 : sFldS C "costs" (oVar 0) (oMaskL (dLc (dItems (dVar 2)) (.tp [(.nm 4), (.nm 5)]) dYes (dVar 5) [4, 5])) [some (Vl.rf S0.length), some (.p (.int z)), some (.p (gmD n ps)), some (.p T), none, none, none] (S0 ++ [.ins C []]) = .nx [some (Vl.rf S0.length), some (.p (.int z)), some (.p (gmD n ps)), some (.p T), none, none, none] (S0 ++ [.ins C [("costs", .rf (S0.length + 1))], .lst (ps.map fun p => .p (tt p.C))]) := by
    have a := roMaskL (S := S0 ++ [.ins C []]) (ρ := [some (Vl.rf S0.length), some (.p (.int z)), some (.p (gmD n ps)), some (.p T), none, none, none]) (me ▸ l1)
    rw [List.length_append, List.length_singleton, List.append_assoc, List.map_map] at a
    refine (roFldS a (self _) (put_of (fs := []) (fs2 := [("costs", .rf (S0.length + 1))]) app_get0 (by simp) rfl)).trans ?_
    rw [app_set0]
    rfl
  have s2 : sFldS C "free" (oVar 0) (oMaskL (dLc (dItems (dVar 2)) (.tp [(.nm 6), (.nm 4)]) dYes (dArg m_free_sets (dCons (dVar 6) dNil)) [6, 4])) [some (Vl.rf S0.length), some (.p (.int z)), some (.p (gmD n ps)), some (.p T), none, none, none] (S0 ++ [.ins C [("costs", .rf (S0.length + 1))], .lst (ps.map fun p => .p (tt p.C))]) = .nx [some (Vl.rf S0.length), some (.p (.int z)), some (.p (gmD n ps)), some (.p T), none, none, none] (S0 ++ [.ins C [("costs", .rf (S0.length + 1)), ("free", .rf (S0.length + 2))], .lst (ps.map fun p => .p (tt p.C)), .lst ((ps.map Fd).map .p)]) := by
    have a := roMaskL (S := S0 ++ [.ins C [("costs", .rf (S0.length + 1))], .lst (ps.map fun p => .p (tt p.C))]) (ρ := [some (Vl.rf S0.length), some (.p (.int z)), some (.p (gmD n ps)), some (.p T), none, none, none]) (me ▸ l2)
    rw [List.length_append, List.append_assoc] at a
    refine (roFldS a (self _) (put_of (fs := [("costs", .rf (S0.length + 1))]) (fs2 := [("costs", .rf (S0.length + 1)), ("free", .rf (S0.length + 2))]) app_get0 (by simp) rfl)).trans ?_
    rw [app_set0]
    rfl
  have s3 : sFldS C "sets" (oVar 0) (oMaskL (dArg bList (dCons (dVar 3) dNil))) [some (Vl.rf S0.length), some (.p (.int z)), some (.p (gmD n ps)), some (.p T), none, none, none] (S0 ++ [.ins C [("costs", .rf (S0.length + 1)), ("free", .rf (S0.length + 2))], .lst (ps.map fun p => .p (tt p.C)), .lst ((ps.map Fd).map .p)]) = .nx [some (Vl.rf S0.length), some (.p (.int z)), some (.p (gmD n ps)), some (.p T), none, none, none] (S0 ++ [.ins C [("costs", .rf (S0.length + 1)), ("free", .rf (S0.length + 2)), ("sets", .rf (S0.length + 3))], .lst (ps.map fun p => .p (tt p.C)), .lst ((ps.map Fd).map .p), .lst (sets.map fun l => .p (tu l))]) := by
    have a := roMaskL (S := S0 ++ [.ins C [("costs", .rf (S0.length + 1)), ("free", .rf (S0.length + 2))], .lst (ps.map fun p => .p (tt p.C)), .lst ((ps.map Fd).map .p)]) (ρ := [some (Vl.rf S0.length), some (.p (.int z)), some (.p (gmD n ps)), some (.p T), none, none, none]) (me ▸ l3)
    rw [List.length_append, List.append_assoc, show (sets.map tu).map Vl.p = sets.map fun l => Vl.p (tu l) by rw [List.map_map]; rfl] at a
    refine (roFldS a (self _) (put_of (fs := [("costs", .rf (S0.length + 1)), ("free", .rf (S0.length + 2))]) (fs2 := [("costs", .rf (S0.length + 1)), ("free", .rf (S0.length + 2)), ("sets", .rf (S0.length + 3))]) app_get0 (by simp) rfl)).trans ?_
    rw [app_set0]
    rfl
  have s4 : sFldS C "counts" (oVar 0) (oArg o_count_sets (oCons (oMask (dVar 1)) (oCons (oMask (dVar 3)) oNil))) [some (Vl.rf S0.length), some (.p (.int z)), some (.p (gmD n ps)), some (.p T), none, none, none] (S0 ++ [.ins C [("costs", .rf (S0.length + 1)), ("free", .rf (S0.length + 2)), ("sets", .rf (S0.length + 3))], .lst (ps.map fun p => .p (tt p.C)), .lst ((ps.map Fd).map .p), .lst (sets.map fun l => .p (tu l))]) = .nx [some (Vl.rf S0.length), some (.p (.int z)), some (.p (gmD n ps)), some (.p T), none, none, none] (S0 ++ momT C S0.length ps (ps.map Fd) z sets) := by
    have a := (roArg (m := o_count_sets) (ρ := [some (Vl.rf S0.length), some (.p (.int z)), some (.p (gmD n ps)), some (.p T), none, none, none]) (S := S0 ++ [.ins C [("costs", .rf (S0.length + 1)), ("free", .rf (S0.length + 2)), ("sets", .rf (S0.length + 3))], .lst (ps.map fun p => .p (tt p.C)), .lst ((ps.map Fd).map .p), .lst (sets.map fun l => .p (tu l))]) (roCons (g := oMask (dVar 1)) (x := .p (.int z)) rfl (roCons (g := oMask (dVar 3)) (x := .p T) (h := oNil) rfl rfl))).trans (o_counts (sets := sets) hT z0 z9 hl)
    rw [List.length_append, List.append_assoc] at a
    refine (roFldS a (self _) (put_of (fs := [("costs", .rf (S0.length + 1)), ("free", .rf (S0.length + 2)), ("sets", .rf (S0.length + 3))]) (fs2 := [("costs", .rf (S0.length + 1)), ("free", .rf (S0.length + 2)), ("sets", .rf (S0.length + 3)), ("counts", .rf (S0.length + 4))]) app_get0 (by simp) rfl)).trans ?_
    rw [app_set0]
    rfl
  unfold g_Moment___init__
  rw [roSeq s1, roSeq s2, roSeq s3, s4]
  rfl
/-- a move made -/
theorem mem_larger {own : List Int} {out : Option Int} {p x : Int} : x ∈ larger own out p ↔ (x ∈ own ∧ ∀ o, out = some o → x ≠ o) ∨ x = p := by
  cases out with
  | none =>
    show x ∈ sortI (own ++ [p]) ↔ _
    rw [mem_sortI, List.mem_append, List.mem_singleton]
    exact ⟨fun h => h.imp (fun a => ⟨a, fun _ h => (by cases h)⟩) id, fun h => h.imp (fun a => a.1) id⟩
  | some o =>
    show x ∈ sortI (own.filter (fun y => !(y == o)) ++ [p]) ↔ _
    rw [mem_sortI, List.mem_append, List.mem_singleton, List.mem_filter]
    simp only [Bool.not_eq_true', beq_eq_false_iff_ne, Option.some.injEq, forall_eq']
theorem v_make (M : Mom n ps sets) (n9 : n ≤ 900) (hp9 : ps.length ≤ 900) (hz : z = n) {S0 : Store} {m : Mv65} (R : InR n ps m) {s2 : List (List Int)} (h : stp ps sets m = some s2) : m_Moment_make C [.rf S0.length, .p (mvD65 m)] (S0 ++ momT C S0.length ps fr z sets) = .ok (.p .none) (S0 ++ momT C S0.length ps fr z s2) := by
  obtain ⟨i, out, p⟩ := m
  have i0 : 0 ≤ i := R.i0
  have i1 : i < (ps.length : Int) := R.i1
  have p0 : 0 ≤ p := R.p0
  have p1 : p < n := R.p1
  have len := M.len
  have asc := M.asc i0 i1
  have al := asc.len
  obtain ⟨h1, h2, h3, rfl⟩ := stp_some h
  have h1 : ¬ p ∈ ixr sets i := h1
  show m_Moment_make C [.rf S0.length, .p (mvD65 (i, out, p))] (S0 ++ momT C S0.length ps fr z sets) = .ok (.p .none) (S0 ++ momT C S0.length ps fr z (withL sets i (larger (ixr sets i) out p)))
  have own_at : (sets.map fun l => Vl.p (tu l))[i.toNat]? = some (.p (tu (ixr sets i))) := by
    have hl : i.toNat < sets.length := by omega
    rw [List.getElem?_map, List.getElem?_eq_getElem hl]
    unfold ixr
    rw [List.getElem?_eq_getElem hl]
    rfl
  have atI_own : atI (sets.map fun l => Vl.p (tu l)) i = some (.p (tu (ixr sets i))) := by
    unfold atI
    rw [ixN_of i0 (by rw [List.length_map]; omega)]
    exact own_at
  unfold m_Moment_make
  rw [roRun (p := 2) (by rfl)]
  have ρe : startO 6 [Vl.rf S0.length, .p (mvD65 (i, out, p))] = [some (.rf S0.length), some (.p (mvD65 (i, out, p))), none, none, none, none] := rfl
  rw [ρe]
  have s1 : sSet (oMask (dVar 1)) (.tp [(.nm 2), (.nm 3), (.nm 4)]) [some (Vl.rf S0.length), some (.p (mvD65 (i, out, p))), none, none, none, none] (S0 ++ momT C S0.length ps fr z sets) = .nx [some (Vl.rf S0.length), some (.p (mvD65 (i, out, p))), some (.p (.int i)), some (.p (oI out)), some (.p (.int p)), none] (S0 ++ momT C S0.length ps fr z sets) :=
    roSet (x := .p (mvD65 (i, out, p))) (roMask rfl) (by simp [mvD65])
  have s2 : sSet (oIxO (oFld C "sets" (oVar 0)) (oMask (dVar 2))) (.nm 5) [some (Vl.rf S0.length), some (.p (mvD65 (i, out, p))), some (.p (.int i)), some (.p (oI out)), some (.p (.int p)), none] (S0 ++ momT C S0.length ps fr z sets) = .nx [some (Vl.rf S0.length), some (.p (mvD65 (i, out, p))), some (.p (.int i)), some (.p (oI out)), some (.p (.int p)), some (.p (tu (ixr sets i)))] (S0 ++ momT C S0.length ps fr z sets) :=
    roSet (roIx (roFld (roVar (x := .rf S0.length) rfl) (fldV_mom (f := "sets") (k := 3) rfl)) (roMask (d := .int i) rfl) (show ixV (.rf (S0.length + 3)) (.p (.int i)) _ = some (.p (tu (ixr sets i))) by
      unfold ixV
      dsimp only
      rw [show (S0 ++ momT C S0.length ps fr z sets)[S0.length + 3]? = some (.lst (sets.map fun l => .p (tu l))) from app_get]
      exact atI_own)) (setO_nm _ _ _)
  have step3 : ∃ own2 cnt2, sIf (oMaskB (dAsB (dOne (fun d => .ok (.bool (!isNone d))) (dVar 3)))) (sSeq (sSet (oMask (dArg m_leave_out (dCons (dVar 5) (dCons (dVar 3) dNil)))) (.nm 5)) (sAugAtI (fun i j => i - j) (oFld C "counts" (oVar 0)) (oMask (dVar 3)) (oMask (dC (.int 1))))) sSkip [some (Vl.rf S0.length), some (.p (mvD65 (i, out, p))), some (.p (.int i)), some (.p (oI out)), some (.p (.int p)), some (.p (tu (ixr sets i)))] (S0 ++ momT C S0.length ps fr z sets) = .nx [some (Vl.rf S0.length), some (.p (mvD65 (i, out, p))), some (.p (.int i)), some (.p (oI out)), some (.p (.int p)), some (.p (tu own2))] (S0 ++ momS C S0.length ps fr sets ((rangeI 0 z).map cnt2)) ∧ own2.length ≤ 900 ∧ sortI (own2 ++ [p]) = larger (ixr sets i) out p ∧ (∀ x, cnt2 x = load sets x - (if out = some x then 1 else 0)) := by
    cases out with
    | none => exact ⟨ixr sets i, load sets, roIf_f rfl, by omega, rfl, fun x => by rw [if_neg (by intro h; cases h)]; omega⟩
    | some o =>
      obtain ⟨o0, o1⟩ := R.o o rfl
      have e1 : sSet (oMask (dArg m_leave_out (dCons (dVar 5) (dCons (dVar 3) dNil)))) (.nm 5) [some (Vl.rf S0.length), some (.p (mvD65 (i, some o, p))), some (.p (.int i)), some (.p (oI (some o))), some (.p (.int p)), some (.p (tu (ixr sets i)))] (S0 ++ momT C S0.length ps fr z sets) = .nx [some (Vl.rf S0.length), some (.p (mvD65 (i, some o, p))), some (.p (.int i)), some (.p (oI (some o))), some (.p (.int p)), some (.p (tu ((ixr sets i).filter fun y => !(y == o))))] (S0 ++ momT C S0.length ps fr z sets) :=
        roSet (roMask ((arg_of (m := m_leave_out) (cons_of (f := dVar 5) (a := tu (ixr sets i)) rfl (cons_of (f := dVar 3) (g := dNil) (a := .int o) rfl rfl))).trans (v_leave_out _ o))) (setO_nm _ _ _)
      have cz : (((rangeI 0 z).map (load sets)).map fun i => Vl.p (.int i))[o.toNat]? = some (.p (.int (load sets o))) := by
        rw [List.getElem?_map, List.getElem?_map, rangeI_get (by omega)]
        show some (Vl.p (.int (load sets (0 + (o.toNat : Int))))) = _
        rw [show (0 + (o.toNat : Int)) = o by omega]
      have e2 := roAugAtI (u := fun i j => i - j) (go := oFld C "counts" (oVar 0)) (gi := oMask (dVar 3)) (ge := oMask (dC (.int 1))) (ρ := [some (Vl.rf S0.length), some (.p (mvD65 (i, some o, p))), some (.p (.int i)), some (.p (oI (some o))), some (.p (.int p)), some (.p (tu ((ixr sets i).filter fun y => !(y == o))))]) (S := S0 ++ momT C S0.length ps fr z sets) (k := o) (z := load sets o) (w := 1) (roFld (roVar (x := .rf S0.length) rfl) (fldV_mom (f := "counts") (k := 4) rfl)) (roMask (d := .int o) rfl) lst_counts o0 cz (roMask rfl) lst_counts
      have se : (S0 ++ momT C S0.length ps fr z sets).set (S0.length + 4) (.lst ((((rangeI 0 z).map (load sets)).map fun i => Vl.p (.int i)).set o.toNat (.p (.int (load sets o - 1))))) = S0 ++ momS C S0.length ps fr sets ((rangeI 0 z).map fun y => if y = o then load sets o - 1 else load sets y) := by
        rw [← set_rng65 o0 (by omega)]
        exact set_counts
      rw [se] at e2
      refine ⟨(ixr sets i).filter fun y => !(y == o), fun y => if y = o then load sets o - 1 else load sets y, (roIf_t rfl).trans ((roSeq e1).trans e2), by have := List.length_filter_le (fun y => !(y == o)) (ixr sets i); omega, rfl, fun x => ?_⟩
      show (if x = o then load sets o - 1 else load sets x) = load sets x - (if some o = some x then 1 else 0)
      by_cases e : x = o
      · subst e; rw [if_pos rfl, if_pos rfl]
      · rw [if_neg e, if_neg (fun z => e (Option.some.inj z).symm)]; omega
  obtain ⟨own2, cnt2, s3, l2, eL, ec⟩ := step3
  have s4 := roSetAt (go := oFld C "sets" (oVar 0)) (gi := oMask (dVar 2)) (ge := oMask (dArg m_put_in (dCons (dVar 5) (dCons (dVar 4) dNil)))) (ρ := [some (Vl.rf S0.length), some (.p (mvD65 (i, out, p))), some (.p (.int i)), some (.p (oI out)), some (.p (.int p)), some (.p (tu own2))]) (S := S0 ++ momS C S0.length ps fr sets ((rangeI 0 z).map cnt2)) (k := i) (roMask ((arg_of (m := m_put_in) (cons_of (f := dVar 5) (a := tu own2) rfl (cons_of (f := dVar 4) (g := dNil) (a := .int p) rfl rfl))).trans (v_put_in _ p (by omega)))) (roFld (roVar (x := .rf S0.length) rfl) (fldV_mom (f := "sets") (k := 3) rfl)) (roMask (d := .int i) rfl) lst_sets i0 (by rw [List.length_map]; omega)
  rw [set_sets, eL] at s4
  have cz : (((rangeI 0 z).map cnt2).map fun i => Vl.p (.int i))[p.toNat]? = some (.p (.int (cnt2 p))) := by
    rw [List.getElem?_map, List.getElem?_map, rangeI_get (by omega)]
    show some (Vl.p (.int (cnt2 (0 + (p.toNat : Int))))) = _
    rw [show (0 + (p.toNat : Int)) = p by omega]
  have s5 := roAugAtI (u := fun i j => i + j) (go := oFld C "counts" (oVar 0)) (gi := oMask (dVar 4)) (ge := oMask (dC (.int 1))) (ρ := [some (Vl.rf S0.length), some (.p (mvD65 (i, out, p))), some (.p (.int i)), some (.p (oI out)), some (.p (.int p)), some (.p (tu own2))]) (S := S0 ++ momS C S0.length ps fr (sets.set i.toNat (larger (ixr sets i) out p)) ((rangeI 0 z).map cnt2)) (k := p) (z := cnt2 p) (w := 1) (roFld (roVar (x := .rf S0.length) rfl) (fldV_mom (f := "counts") (k := 4) rfl)) (roMask (d := .int p) rfl) lst_counts p0 cz (roMask rfl) lst_counts
  rw [set_counts, set_rng65 p0 (by omega)] at s5
  have fin : ((rangeI 0 z).map fun y => if y = p then cnt2 p + 1 else cnt2 y) = (rangeI 0 z).map (load (withL sets i (larger (ixr sets i) out p))) := by
    refine List.map_congr_left fun x _ => ?_
    rw [load_withL i0 (by omega), ec, ec]
    by_cases e : x = p
    · subst e
      rw [if_pos rfl, if_neg (show ¬ x ∈ ixr sets i from h1), if_pos (mem_larger.mpr (.inr rfl))]
      have : ¬ out = some x := fun z => by
        subst z
        have : okOut ps sets (i, some x, x) = true := h2
        unfold okOut at this
        dsimp only at this
        rw [decide_eq_false h1, Bool.false_and] at this
        cases this
      rw [if_neg this]
    · rw [if_neg e]
      by_cases ho : out = some x
      · subst ho
        have : okOut ps sets (i, some x, p) = true := h2
        unfold okOut at this
        dsimp only at this
        rw [Bool.and_eq_true, decide_eq_true_iff] at this
        rw [if_pos rfl, if_pos this.1, if_neg (fun h => by
          rcases mem_larger.mp h with ⟨_, q⟩ | q
          · exact q x rfl rfl
          · exact e q)]
        omega
      · rw [if_neg ho]
        by_cases hx : x ∈ ixr sets i
        · rw [if_pos hx, if_pos (mem_larger.mpr (.inl ⟨hx, fun o q w => ho (by rw [q, w])⟩))]
          omega
        · rw [if_neg hx, if_neg (fun h => by
            rcases mem_larger.mp h with ⟨q, _⟩ | q
            · exact hx q
            · exact e q)]
          omega
  unfold g_Moment_make
  rw [roSeq s1, roSeq s2, roSeq s3, roSeq s4, augAt_eq, s5, fin]
  rfl
end
end LW
set_option Elab.async false
set_option linter.all false
set_option maxRecDepth 100000
set_option maxHeartbeats 4000000
namespace LW
open PySem PySem.Spec PyProof.Rows L2 PD
def szO (n : Int) (ps : List Pl) : Int := if ps = [] then 0 else n
def empO (ps : List Pl) : List (List Int) := ps.map fun _ => []
def Path (ps : List Pl) : List (List Int) → List Mv65 → List (List Int) → Prop
  | s, [], t => s = t
  | s, m :: l, t => ∃ s1, stp ps s m = some s1 ∧ Path ps s1 l t
theorem Path.snoc {ps : List Pl} : ∀ {l : List Mv65} {s t u : List (List Int)} {m : Mv65}, Path ps s l t → stp ps t m = some u → Path ps s (l ++ [m]) u
  | [], s, t, u, m, h, e => by
    have h : s = t := h
    subst h
    exact ⟨u, e, rfl⟩
  | x :: l, s, t, u, m, ⟨s1, h1, h2⟩, e => ⟨s1, h1, Path.snoc h2 e⟩
theorem Path.mom {n : Int} {ps : List Pl} : ∀ {l : List Mv65} {s t : List (List Int)}, Mom n ps s → (∀ m ∈ l, InR n ps m) → Path ps s l t → Mom n ps t
  | [], s, t, M, _, h => by
    have h : s = t := h
    subst h
    exact M
  | m :: l, s, t, M, R, ⟨s1, h1, h2⟩ => Path.mom (M.step (R m List.mem_cons_self) h1) (fun x hx => R x (List.mem_cons_of_mem _ hx)) h2
section
variable {C : Addr} {n z : Int} {ps : List Pl} {fr : List PyData} {sets : List (List Int)}
theorem emp_mom (good : ∀ p ∈ ps, Good n p.ls) : Mom n ps (empO ps) := ⟨List.length_map _, fun i i0 i1 => by
  have h : i.toNat < ps.length := by omega
  have e : ixr (empO ps) i = [] := by
    unfold ixr empO
    rw [List.getElem?_map, List.getElem?_eq_getElem h]
    rfl
  rw [e]
  obtain ⟨l, hl⟩ := List.exists_mem_of_ne_nil _ (good _ (plx_mem i0 i1)).ne
  exact ⟨⟨.nil, fun _ h => nomatch h⟩, l, hl, fun _ h => nomatch h⟩⟩
theorem items_lt (L : List (List Int)) : items (lt L) = .ok (L.map tu) := rfl
theorem v_empty {S0 : Store} {Fd : Pl → PyData} (hF : ∀ p ∈ ps, m_free_sets [ofr n p.ls] = .ok (Fd p)) (n0 : 0 ≤ n) (n9 : n ≤ 900) (hp : ps.length ≤ 900) : m_empty_moment C [.p (gmD n ps)] S0 = .ok (.rf S0.length) (S0 ++ momT C S0.length ps (ps.map Fd) (szO n ps) (empO ps)) := by
  unfold m_empty_moment
  rw [roRun (p := 1) (by rfl)]
  have bl : bLen [gmD n ps] = .ok (.int ps.length) := by simp [bLen, gmD]
  have ez : dIf (dAsB (dTwo oGt (dArg bLen (dCons (dVar 0) dNil)) (dC (.int 0)))) (dTwo oIx (dTwo oIx (dTwo oIx (dVar 0) (dC (.int 0))) (dC (.int 0))) (dC (.int 0))) (dC (.int 0)) [some (.d (gmD n ps)), none, none] = .ok (.int (szO n ps)) := by
    have q := asB_of ((two_of (u := oGt) ((arg_of (m := bLen) (ρ := [some (.d (gmD n ps)), none, none]) (cons_of (f := dVar 0) (g := dNil) rfl rfl)).trans bl) (g := dC (.int 0)) rfl).trans (oGt_int _ _))
    unfold szO
    by_cases h : ps = []
    · rw [if_pos h]
      rw [decide_eq_false (by rw [h]; decide)] at q
      exact (ife_f q).trans rfl
    · rw [if_neg h]
      have hl := List.length_pos_iff.mpr h
      rw [decide_eq_true (by omega)] at q
      exact (ife_t q).trans ((two_of ((two_of ((two_of (f := dVar 0) (g := dC (.int 0)) rfl rfl).trans (ix_tk (by decide) (by omega))) (g := dC (.int 0)) rfl).trans (show _ = PD.R.ok (ofr n (plx ps 0).ls) from rfl)) (g := dC (.int 0)) rfl).trans (of_p0 _ _))
  have s1 : sSet (oMask (dIf (dAsB (dTwo oGt (dArg bLen (dCons (dVar 0) dNil)) (dC (.int 0)))) (dTwo oIx (dTwo oIx (dTwo oIx (dVar 0) (dC (.int 0))) (dC (.int 0))) (dC (.int 0))) (dC (.int 0)))) (.nm 1) (startO 3 [Vl.p (gmD n ps)]) S0 = .nx [some (.p (gmD n ps)), some (.p (.int (szO n ps))), none] S0 := roSet (roMask ez) (setO_nm _ _ _)
  have lc := lc_of (enc := tkD n) (fi := dItems (dVar 0)) (t := .nm 2) (ft := dYes) (fe := dTup dNil) (vs := [2]) (ρ := [some (.d (gmD n ps)), some (.d (.int (szO n ps))), none]) (xs := ps) (st := fun p => [some (.d (gmD n ps)), some (.d (.int (szO n ps))), some (.d (tkD n p))]) (q := fun _ => true) (g := fun _ => tu []) rfl (fun p _ => ⟨rfl, rfl, fun _ => rfl⟩)
  rw [List.filter_eq_self.mpr (fun _ _ => rfl), show (ps.map fun _ => tu []) = (empO ps).map tu by unfold empO; rw [List.map_map]; rfl] at lc
  have z0 : 0 ≤ szO n ps ∧ szO n ps ≤ 900 := by unfold szO; split <;> omega
  have i := v_init (C := C) (S0 := S0) (sets := empO ps) hF (items_lt (empO ps)) z0.1 z0.2 (by unfold empO; rw [List.length_map]; exact hp) hp
  have a := roMake (C := C) (m := m_Moment___init__ C) (h := oCons (oMask (dVar 1)) (oCons (oMask (dVar 0)) (oCons (oMask (dLc (dItems (dVar 0)) (.nm 2) dYes (dTup dNil) [2])) oNil))) (ρ := [some (.p (gmD n ps)), some (.p (.int (szO n ps))), none]) (S := S0) (roCons (g := oMask (dVar 1)) (x := .p (.int (szO n ps))) rfl (roCons (g := oMask (dVar 0)) (x := .p (gmD n ps)) rfl (roCons (roMask lc) roNil))) i
  unfold g_empty_moment
  rw [roSeq s1, roRet a]
  rfl
/-- a log's turn -/
def bodyO (C : Addr) (bad : SO) : SO := sSeq (sIf (oSnapB (dNot (dAsB (dMethD C "is_allowed" (m_Moment_is_allowed C) (dVar 2) (dCons (dVar 4) dNil))))) bad sSkip) (sExpr (oMeth C "make" (m_Moment_make C) (oVar 2) (oDfl [] (oCons (oMask (dVar 4)) oNil))))
theorem snap_momT {S0 : Store} : snapV 6 (S0 ++ momT C S0.length ps fr z sets) (.rf S0.length) = some (momM C ps fr z sets) := snap_mom
theorem snap5 {S0 : Store} {a b c d : PyData} : snapR (S0 ++ momT C S0.length ps fr z sets) [some (.p a), some (.p b), some (.rf S0.length), some (.p c), some (.p d)] = [some (.d a), some (.d b), some (.d (momM C ps fr z sets)), some (.d c), some (.d d)] := by
  rw [snapR_p, snapR_p, snapR_of snap_momT, snapR_p, snapR_p, snapR_nil]
theorem turn_ok {bad : SO} (G : Game n ps) (M : Mom n ps sets) (F : FrOk n ps fr) (hz : z = n) (hp9 : ps.length ≤ 900) {S0 : Store} {a b c : PyData} {m : Mv65} (R : InR n ps m) {s2 : List (List Int)} (h : stp ps sets m = some s2) : bodyO C bad [some (.p a), some (.p b), some (.rf S0.length), some (.p c), some (.p (mvD65 m))] (S0 ++ momT C S0.length ps fr z sets) = .nx [some (.p a), some (.p b), some (.rf S0.length), some (.p c), some (.p (mvD65 m))] (S0 ++ momT C S0.length ps fr z s2) := by
  have al := v_is_allowed (C := C) G M F hz R
  rw [h] at al
  have q : dNot (dAsB (dMethD C "is_allowed" (m_Moment_is_allowed C) (dVar 2) (dCons (dVar 4) dNil))) (snapR (S0 ++ momT C S0.length ps fr z sets) [some (.p a), some (.p b), some (.rf S0.length), some (.p c), some (.p (mvD65 m))]) = .ok false := by
    rw [snap5]
    exact not_of (b := true) (asB_of ((meth_of (C := C) (nm := "is_allowed") (m := m_Moment_is_allowed C) (g := dVar 2) (gl := dCons (dVar 4) dNil) rfl (recv_mom "is_allowed") rfl).trans al))
  have mk := v_make (C := C) (fr := fr) M G.n1 hp9 hz (S0 := S0) R h
  have e2 := (roMeth (C := C) (nm := "make") (m := m_Moment_make C) (g := oVar 2) (h := oCons (oMask (dVar 4)) oNil) (ρ := [some (.p a), some (.p b), some (.rf S0.length), some (.p c), some (.p (mvD65 m))]) (S := S0 ++ momT C S0.length ps fr z sets) (roVar (x := .rf S0.length) rfl) (recvV_mom (m := "make")) (roCons (g := oMask (dVar 4)) (x := .p (mvD65 m)) rfl roNil)).trans mk
  unfold bodyO
  rw [roSeq ((roIf_f (roSnapB q)).trans (ev_sSkip _ _)), roExpr e2]
theorem turn_no {bad : SO} (G : Game n ps) (M : Mom n ps sets) (F : FrOk n ps fr) (hz : z = n) {S0 : Store} {a b c : PyData} {m : Mv65} (R : InR n ps m) (h : stp ps sets m = none) {e : Ex} {ρ' : RhoO} {S' : Store} (hb : bad [some (.p a), some (.p b), some (.rf S0.length), some (.p c), some (.p (mvD65 m))] (S0 ++ momT C S0.length ps fr z sets) = .exc e ρ' S') : bodyO C bad [some (.p a), some (.p b), some (.rf S0.length), some (.p c), some (.p (mvD65 m))] (S0 ++ momT C S0.length ps fr z sets) = .exc e ρ' S' := by
  have al := v_is_allowed (C := C) G M F hz R
  rw [h] at al
  have q : dNot (dAsB (dMethD C "is_allowed" (m_Moment_is_allowed C) (dVar 2) (dCons (dVar 4) dNil))) (snapR (S0 ++ momT C S0.length ps fr z sets) [some (.p a), some (.p b), some (.rf S0.length), some (.p c), some (.p (mvD65 m))]) = .ok true := by
    rw [snap5]
    exact not_of (b := false) (asB_of ((meth_of (C := C) (nm := "is_allowed") (m := m_Moment_is_allowed C) (g := dVar 2) (gl := dCons (dVar 4) dNil) rfl (recv_mom "is_allowed") rfl).trans al))
  unfold bodyO
  rw [ev_sSeq, roIf_t (roSnapB q), hb]
  rfl
theorem replay_go {bad : SO} (G : Game n ps) (F : FrOk n ps fr) (hz : z = n) (hp9 : ps.length ≤ 900) {S0 : Store} {a b : PyData} {t : List (List Int)} : ∀ (l : List Mv65) (k : Int) (s : List (List Int)) (x3 x4 : Option Vl), Mom n ps s → (∀ m ∈ l, InR n ps m) → Path ps s l t → ∃ x3' x4', sForGo (.tp [.nm 3, .nm 4]) (bodyO C bad) ((idx k l).map (encI mvD65)) [some (.p a), some (.p b), some (.rf S0.length), x3, x4] (S0 ++ momT C S0.length ps fr z s) = .nx [some (.p a), some (.p b), some (.rf S0.length), x3', x4'] (S0 ++ momT C S0.length ps fr z t)
  | [], k, s, x3, x4, M, R, h => by
    have h : s = t := h
    subst h
    exact ⟨x3, x4, rfl⟩
  | m :: l, k, s, x3, x4, M, R, ⟨s1, h1, h2⟩ => by
    have Rm := R m List.mem_cons_self
    have e := turn_ok (C := C) (bad := bad) G M F hz hp9 (S0 := S0) (a := a) (b := b) (c := .int k) Rm h1
    obtain ⟨y3, y4, e2⟩ := replay_go (bad := bad) G F hz hp9 (S0 := S0) (a := a) (b := b) l (k + 1) s1 (some (.p (.int k))) (some (.p (mvD65 m))) (M.step Rm h1) (fun x hx => R x (List.mem_cons_of_mem _ hx)) h2
    refine ⟨y3, y4, ?_⟩
    show sForGo _ _ (encI mvD65 (k, m) :: (idx (k + 1) l).map (encI mvD65)) _ _ = _
    unfold sForGo
    rw [show (Tg.tp [.nm 3, .nm 4]).setO (.p (encI mvD65 (k, m))) [some (.p a), some (.p b), some (.rf S0.length), x3, x4] = some [some (.p a), some (.p b), some (.rf S0.length), some (.p (.int k)), some (.p (mvD65 m))] by simp [encI]]
    dsimp only
    rw [e]
    exact e2
theorem enum_log (l : List Mv65) (x2 x3 x4 : Option Sl) (g : PyData) : dEnum (dCons (dVar 1) dNil) [some (.d g), some (.d (.tuple (l.map mvD65))), x2, x3, x4] = .ok ((idx 0 l).map (encI mvD65)) := by
  rw [ev_enum, cons_of (f := dVar 1) (g := dNil) (show dVar 1 _ = PD.R.ok (PyData.tuple (l.map mvD65)) from rfl) rfl, R.bind_ok, enumA_1]
  show PD.R.ok (enumF 0 (l.map mvD65)) = _
  rw [enumF_map]
theorem ret_sets {S0 : Store} {x3 x4 : Option Vl} {a b : PyData} : sRet (oSnap (dArg bTuple (dCons (dAt C "sets" (dVar 2)) dNil))) [some (.p a), some (.p b), some (.rf S0.length), x3, x4] (S0 ++ momT C S0.length ps fr z sets) = .rt (.p (tt sets)) (S0 ++ momT C S0.length ps fr z sets) := by
  obtain ⟨y3, y4, e⟩ : ∃ y3 y4, snapR (S0 ++ momT C S0.length ps fr z sets) [some (.p a), some (.p b), some (.rf S0.length), x3, x4] = [some (.d a), some (.d b), some (.d (momM C ps fr z sets)), y3, y4] := by
    rw [snapR_p, snapR_p, snapR_of snap_momT]
    exact ⟨_, _, rfl⟩
  have q : dArg bTuple (dCons (dAt C "sets" (dVar 2)) dNil) (snapR (S0 ++ momT C S0.length ps fr z sets) [some (.p a), some (.p b), some (.rf S0.length), x3, x4]) = .ok (tt sets) := by
    rw [e]
    exact (arg_of (m := bTuple) (cons_of (g := dNil) (at_of (C := C) (g := dVar 2) rfl fld_sets) rfl)).trans rfl
  have nm : noMut (tt sets) = true := by
    show noMuts (sets.map tu) = true
    have : ∀ L : List (List Int), noMuts (L.map tu) = true := fun L => by
      induction L with
      | nil => rfl
      | cons l L ih =>
        show (noMut (tu l) && noMuts (L.map tu)) = true
        rw [ih, Bool.and_true]
        show noMuts (l.map PyData.int) = true
        induction l with
        | nil => rfl
        | cons x l ih2 => show (true && noMuts (l.map PyData.int)) = true; rw [ih2]; rfl
    exact this sets
  rw [roRet (roSnap q nm)]
theorem tt_snap (S : Store) : snapV 6 S (.p (tt sets)) = some (tt sets) := rfl
end
end LW
set_option Elab.async false
set_option linter.all false
set_option maxRecDepth 100000
set_option maxHeartbeats 4000000
namespace LW
open PySem PySem.Spec PyProof.Rows L2 PD
theorem frz_of65 {i : Nat} {g : Sn} {ρ : Rho} {ds : List PyData} (h : ρ[i]? = some (some (.own ds))) : gFrz i g ρ = g (ρ.set i (some (.d (.list ds)))) := by rw [ev_frz, ev_frzs, h]; rfl
theorem forGo_acc {α : Type} {enc : α → PyData} {i : Nat} {g : Sn} (P : List PyData → Rho → Prop) (f : α → List PyData) (h : ∀ x acc ρ, P acc ρ → acc.length + (f x).length ≤ 5000 → ∃ ρ', g (ρ.set i (some (.d (enc x)))) = .nx ρ' ∧ P (acc ++ f x) ρ') : ∀ (xs : List α) (acc : List PyData) (ρ : Rho), P acc ρ → acc.length + (xs.flatMap f).length ≤ 5000 → ∃ ρ', forGo (.nm i) g (xs.map enc) ρ = .nx ρ' ∧ P (acc ++ xs.flatMap f) ρ'
  | [], acc, ρ, hP, _ => ⟨ρ, rfl, by rw [List.flatMap_nil, List.append_nil]; exact hP⟩
  | x :: xs, acc, ρ, hP, hb => by
    rw [List.flatMap_cons, List.length_append] at hb
    obtain ⟨ρ1, e1, h1⟩ := h x acc ρ hP (by omega)
    obtain ⟨ρ2, e2, h2⟩ := forGo_acc P f h xs (acc ++ f x) ρ1 h1 (by rw [List.length_append]; omega)
    refine ⟨ρ2, ?_, by rw [List.flatMap_cons, ← List.append_assoc]; exact h2⟩
    have st : forGo (.nm i) g (enc x :: xs.map enc) ρ = forGo (.nm i) g (xs.map enc) ρ1 := forGo_cons (set_nm i _ _) e1
    rw [List.map_cons, st, e2]
theorem forGo_nbc {α : Type} {enc : α → PyData} {i : Nat} {g : Sn} (all : List α) (I : Nat → Rho → Prop) (h : ∀ k x ρ, x ∈ all → k ≤ 1000 → I k ρ → (∃ ρ', g (ρ.set i (some (.d (enc x)))) = .nx ρ' ∧ I (k + 1) ρ') ∨ ∃ ρ', g (ρ.set i (some (.d (enc x)))) = .bk ρ' ∧ I k ρ') : ∀ (xs : List α) (k : Nat) (ρ : Rho), (∀ x ∈ xs, x ∈ all) → k + xs.length ≤ 1000 → I k ρ → ∃ ρ' j, forGo (.nm i) g (xs.map enc) ρ = .nx ρ' ∧ I j ρ' ∧ j ≤ k + xs.length
  | [], k, ρ, _, _, hI => ⟨ρ, k, rfl, hI, Nat.le_refl _⟩
  | x :: xs, k, ρ, hx, hk, hI => by
    rw [List.length_cons] at hk
    rw [List.map_cons]
    rcases h k x ρ (hx x List.mem_cons_self) (by omega) hI with ⟨ρ1, e1, h1⟩ | ⟨ρ1, e1, h1⟩
    · have st : forGo (.nm i) g (enc x :: xs.map enc) ρ = forGo (.nm i) g (xs.map enc) ρ1 := forGo_cons (set_nm i _ _) e1
      obtain ⟨ρ2, j, e2, h2, hj⟩ := forGo_nbc all I h xs (k + 1) ρ1 (fun y hy => hx y (List.mem_cons_of_mem _ hy)) (by omega) h1
      exact ⟨ρ2, j, by rw [st, e2], h2, by rw [List.length_cons]; omega⟩
    · refine ⟨ρ1, k, ?_, h1, by rw [List.length_cons]; omega⟩
      unfold forGo
      rw [set_nm]
      dsimp only
      rw [e1]
def outsO (n : Int) : List (Option Int) := none :: (rangeI 0 n).map some
def mvsO (T n : Int) : List Mv65 := (rangeI 0 T).flatMap fun i => (outsO n).flatMap fun o => (rangeI 0 n).map fun p => (i, o, p)
theorem mem_mvs {T n : Int} {m : Mv65} : m ∈ mvsO T n ↔ (0 ≤ m.1 ∧ m.1 < T) ∧ (∀ x, m.2.1 = some x → 0 ≤ x ∧ x < n) ∧ (0 ≤ m.2.2 ∧ m.2.2 < n) := by
  obtain ⟨i, o, p⟩ := m
  unfold mvsO outsO
  simp only [List.mem_flatMap, mem_rangeI, List.mem_cons, List.mem_map]
  constructor
  · rintro ⟨a, ha, b, hb, c, hc, e⟩
    cases e
    refine ⟨ha, fun x hx => ?_, hc⟩
    rcases hb with rfl | ⟨y, hy, rfl⟩
    · cases hx
    · cases hx; exact hy
  · rintro ⟨ha, hb, hc⟩
    refine ⟨i, ha, o, ?_, p, hc, rfl⟩
    cases o with
    | none => exact .inl rfl
    | some x => exact .inr ⟨x, hb x rfl, rfl⟩
theorem flat_le65 {α β : Type} {f : α → List β} {b : Nat} (h : ∀ x, (f x).length ≤ b) : ∀ xs : List α, (xs.flatMap f).length ≤ b * xs.length
  | [] => by simp
  | x :: xs => by
    have := flat_le65 h xs
    have := h x
    rw [List.flatMap_cons, List.length_append, List.length_cons, Nat.mul_succ]
    omega
theorem mvs_len {T n : Int} (hT : T ≤ 8) (hn : n ≤ 12) (n0 : 0 ≤ n) : (mvsO T n).length ≤ 1500 := by
  have a : ∀ i : Int, ((outsO n).flatMap fun o => (rangeI 0 n).map fun p => ((i, o, p) : Mv65)).length ≤ 156 := fun i => by
    have := flat_le65 (f := fun o => (rangeI 0 n).map fun p => ((i, o, p) : Mv65)) (b := 12) (fun o => by rw [List.length_map, rng_len]; omega) (outsO n)
    have l : (outsO n).length ≤ 13 := by unfold outsO; rw [List.length_cons, List.length_map, rng_len]; omega
    omega
  have := flat_le65 a (rangeI 0 T)
  have l : (rangeI 0 T).length ≤ 8 := by rw [rng_len]; omega
  unfold mvsO
  omega
theorem flat1 {α β : Type} (f : α → β) : ∀ xs : List α, (xs.flatMap fun x => [f x]) = xs.map f
  | [] => rfl
  | x :: xs => by rw [List.flatMap_cons, List.map_cons, flat1 f xs]; rfl
theorem v_all_moves {T n : Int} (T0 : 0 ≤ T) (hT : T ≤ 8) (n0 : 0 ≤ n) (hn : n ≤ 12) : m_law_all_moves [.int T, .int n] = .ok (.list ((mvsO T n).map mvD65)) := by
  have ml := mvs_len hT hn n0
  have lo : ∀ (i : Int) (o : Option Int) (acc : List PyData) (x5 : Option Sl), acc.length + ((rangeI 0 n).map fun p => mvD65 (i, o, p)).length ≤ 5000 → ∃ x5', b_law_all_moves_2 [some (.d (.int T)), some (.d (.int n)), some (.own acc), some (.d (.int i)), some (.d (oI o)), x5] = .nx [some (.d (.int T)), some (.d (.int n)), some (.own (acc ++ (rangeI 0 n).map fun p => mvD65 (i, o, p))), some (.d (.int i)), some (.d (oI o)), x5'] := fun i o acc x5 hb => by
    obtain ⟨ρ', e, x5', rfl⟩ := forGo_acc (enc := PyData.int) (i := 5) (g := b_law_all_moves_1) (fun acc ρ => ∃ x5, ρ = [some (.d (.int T)), some (.d (.int n)), some (.own acc), some (.d (.int i)), some (.d (oI o)), x5]) (fun p => [mvD65 (i, o, p)]) (by
      rintro p acc ρ ⟨x5, rfl⟩ hb
      refine ⟨_, ?_, some (.d (.int p)), rfl⟩
      show b_law_all_moves_1 [some (.d (.int T)), some (.d (.int n)), some (.own acc), some (.d (.int i)), some (.d (oI o)), some (.d (.int p))] = _
      unfold b_law_all_moves_1
      exact app_of (i := 2) (ds := acc) (d := mvD65 (i, o, p)) rfl rfl (by omega)) (rangeI 0 n) acc [some (.d (.int T)), some (.d (.int n)), some (.own acc), some (.d (.int i)), some (.d (oI o)), x5] ⟨x5, rfl⟩ (by rw [flat1]; exact hb)
    refine ⟨x5', ?_⟩
    unfold b_law_all_moves_2
    have r : dRng1 (dCons (dVar 1) dNil) [some (.d (.int T)), some (.d (.int n)), some (.own acc), some (.d (.int i)), some (.d (oI o)), x5] = .ok ((rangeI 0 n).map PyData.int) := by
      show rngA1 [.int n] = _
      exact rngA1_ok (by omega) (by omega)
    rw [ev_for, r, oR_ok, e, flat1]
  have li : ∀ (i : Int) (acc : List PyData) (x4 x5 : Option Sl), acc.length + ((outsO n).flatMap fun o => (rangeI 0 n).map fun p => mvD65 (i, o, p)).length ≤ 5000 → ∃ x4' x5', b_law_all_moves_3 [some (.d (.int T)), some (.d (.int n)), some (.own acc), some (.d (.int i)), x4, x5] = .nx [some (.d (.int T)), some (.d (.int n)), some (.own (acc ++ (outsO n).flatMap fun o => (rangeI 0 n).map fun p => mvD65 (i, o, p))), some (.d (.int i)), x4', x5'] := fun i acc x4 x5 hb => by
    obtain ⟨ρ', e, x4', x5', rfl⟩ := forGo_acc (enc := oI) (i := 4) (g := b_law_all_moves_2) (fun acc ρ => ∃ x4 x5, ρ = [some (.d (.int T)), some (.d (.int n)), some (.own acc), some (.d (.int i)), x4, x5]) (fun o => (rangeI 0 n).map fun p => mvD65 (i, o, p)) (by
      rintro o acc ρ ⟨x4, x5, rfl⟩ hb
      obtain ⟨x5', e⟩ := lo i o acc x5 hb
      exact ⟨_, e, _, x5', rfl⟩) (outsO n) acc [some (.d (.int T)), some (.d (.int n)), some (.own acc), some (.d (.int i)), x4, x5] ⟨x4, x5, rfl⟩ hb
    refine ⟨x4', x5', ?_⟩
    unfold b_law_all_moves_3
    have r : dItems (dTwo oAdd (dLst (dCons (dC .none) dNil)) (dOne bLstR1 (dVar 1))) [some (.d (.int T)), some (.d (.int n)), some (.own acc), some (.d (.int i)), x4, x5] = .ok ((outsO n).map oI) := by
      have l1 : bLstR1 (.int n) = .ok (li (rangeI 0 n)) := bLstR1_ok (rgOk_small (by omega) (by omega))
      have a := two_of (u := oAdd) (f := dLst (dCons (dC .none) dNil)) (a := .list [.none]) (ρ := [some (.d (.int T)), some (.d (.int n)), some (.own acc), some (.d (.int i)), x4, x5]) rfl ((one_of (f := dVar 1) rfl).trans l1)
      have ad : oAdd (.list [.none]) (li (rangeI 0 n)) = .ok (.list ([.none] ++ (rangeI 0 n).map .int)) := if_pos (by rw [List.length_singleton, List.length_map, rng_len, sizeLine_eq]; omega)
      rw [ev_items, a, ad, R.bind_ok]
      show PD.R.ok ([PyData.none] ++ (rangeI 0 n).map PyData.int) = _
      unfold outsO
      rw [List.map_cons, List.map_map]
      rfl
    rw [ev_for, r, oR_ok, e]
  obtain ⟨ρ', e, x3', x4', x5', rfl⟩ := forGo_acc (enc := PyData.int) (i := 3) (g := b_law_all_moves_3) (fun acc ρ => ∃ x3 x4 x5, ρ = [some (.d (.int T)), some (.d (.int n)), some (.own acc), x3, x4, x5]) (fun i => (outsO n).flatMap fun o => (rangeI 0 n).map fun p => mvD65 (i, o, p)) (by
    rintro i acc ρ ⟨x3, x4, x5, rfl⟩ hb
    obtain ⟨x4', x5', e⟩ := li i acc x4 x5 hb
    exact ⟨_, e, _, x4', x5', rfl⟩) (rangeI 0 T) [] [some (.d (.int T)), some (.d (.int n)), some (.own []), none, none, none] ⟨none, none, none, rfl⟩ (by
    have : ((rangeI 0 T).flatMap fun i => (outsO n).flatMap fun o => (rangeI 0 n).map fun p => mvD65 (i, o, p)) = (mvsO T n).map mvD65 := by
      unfold mvsO
      simp only [List.map_flatMap, List.map_map]
      rfl
    rw [this, List.length_map, List.length_nil]
    omega)
  have all : ((rangeI 0 T).flatMap fun i => (outsO n).flatMap fun o => (rangeI 0 n).map fun p => mvD65 (i, o, p)) = (mvsO T n).map mvD65 := by
    unfold mvsO
    simp only [List.map_flatMap, List.map_map]
    rfl
  rw [all, List.nil_append] at e
  show endR (g_law_all_moves [some (.d (.int T)), some (.d (.int n)), none, none, none, none]) = _
  have s1 : gOwn (dLst dNil) 2 [some (.d (.int T)), some (.d (.int n)), none, none, none, none] = .nx [some (.d (.int T)), some (.d (.int n)), some (.own []), none, none, none] := rfl
  have s2 : gFor (dRng1 (dCons (dVar 0) dNil)) (.nm 3) b_law_all_moves_3 [some (.d (.int T)), some (.d (.int n)), some (.own []), none, none, none] = .nx [some (.d (.int T)), some (.d (.int n)), some (.own ((mvsO T n).map mvD65)), x3', x4', x5'] := by
    have r : dRng1 (dCons (dVar 0) dNil) [some (.d (.int T)), some (.d (.int n)), some (.own []), none, none, none] = .ok ((rangeI 0 T).map PyData.int) := by
      show rngA1 [.int T] = _
      exact rngA1_ok (by omega) (by omega)
    rw [ev_for, r, oR_ok, e]
  unfold g_law_all_moves
  rw [seq_of s1, seq_of s2]
  rfl
section
variable {n : Int} {ps : List Pl}
theorem mvs_inr {m : Mv65} (h : m ∈ mvsO ps.length (szO n ps)) : InR n ps m := by
  obtain ⟨⟨a, b⟩, c, d, e⟩ := mem_mvs.mp h
  have hp : ps ≠ [] := by
    intro q
    rw [q] at b
    simp at b
    omega
  have hz : szO n ps = n := if_neg hp
  rw [hz] at c e
  exact ⟨a, b, c, d, e⟩
structure Gr (n : Int) (ps : List Pl) (cur : List (List Int)) (sts : List (List (List Int))) (lg : List Mv65) : Prop where
  mom : Mom n ps cur
  inr : ∀ m ∈ lg, InR n ps m
  len : sts.length = lg.length + 1
  first : sts[0]? = some (empO ps)
  st : ∀ (k : Nat) (m : Mv65), lg[k]? = some m → ∃ s t, sts[k]? = some s ∧ sts[k + 1]? = some t ∧ stp ps s m = some t
  last : sts[lg.length]? = some cur
theorem Gr.path {cur : List (List Int)} {sts : List (List (List Int))} {lg : List Mv65} (g : Gr n ps cur sts lg) : ∀ c : Nat, c ≤ lg.length → ∃ s, sts[c]? = some s ∧ Path ps (empO ps) (lg.take c) s
  | 0, _ => ⟨_, g.first, by rw [List.take_zero]; rfl⟩
  | c + 1, h => by
    obtain ⟨s, h1, h2⟩ := Gr.path g c (by omega)
    have hl : c < lg.length := by omega
    obtain ⟨s', t, h3, h4, h5⟩ := g.st c lg[c] (List.getElem?_eq_getElem hl)
    rw [h1] at h3
    cases h3
    refine ⟨t, h4, ?_⟩
    rw [List.take_succ_eq_append_getElem hl]
    exact h2.snoc h5
theorem Gr.add {cur nxt : List (List Int)} {sts : List (List (List Int))} {lg : List Mv65} (g : Gr n ps cur sts lg) {m : Mv65} (R : InR n ps m) (h : stp ps cur m = some nxt) : Gr n ps nxt (sts ++ [nxt]) (lg ++ [m]) := by
  have len := g.len
  refine ⟨g.mom.step R h, fun x hx => ?_, by rw [List.length_append, List.length_append, List.length_singleton, List.length_singleton]; omega, by rw [List.getElem?_append_left (by omega)]; exact g.first, fun k x hx => ?_, by rw [List.length_append, List.length_singleton, List.getElem?_append_right (by omega), show lg.length + 1 - sts.length = 0 by omega]; rfl⟩
  · rcases List.mem_append.mp hx with hx | hx
    · exact g.inr x hx
    · rw [List.mem_singleton.mp hx]; exact R
  · by_cases hk : k < lg.length
    · rw [List.getElem?_append_left hk] at hx
      obtain ⟨s, t, h1, h2, h3⟩ := g.st k x hx
      exact ⟨s, t, by rw [List.getElem?_append_left (by omega)]; exact h1, by rw [List.getElem?_append_left (by omega)]; exact h2, h3⟩
    · have hk2 := (List.getElem?_eq_some_iff.mp hx).1
      rw [List.length_append, List.length_singleton] at hk2
      have ek : k = lg.length := by omega
      subst ek
      rw [List.getElem?_append_right (Nat.le_refl _), Nat.sub_self] at hx
      cases hx
      exact ⟨cur, nxt, by rw [List.getElem?_append_left (by omega)]; exact g.last, by rw [List.getElem?_append_right (by omega), show lg.length + 1 - sts.length = 0 by omega]; rfl, h⟩
def rg65 (n : Int) (ps : List Pl) (D : List Int) (cur : List (List Int)) (sts : List (List (List Int))) (lg : List Mv65) (x6 x7 x8 x9 : Option Sl) : Rho := [some (.d (gmD n ps)), some (.d (li D)), some (.d (.int (szO n ps))), some (.d (tt cur)), some (.own (sts.map tt)), some (.own (lg.map mvD65)), x6, x7, x8, x9, none]
theorem bLen_mv (ms : List Mv65) : bLen [.list (ms.map mvD65)] = .ok (.int ms.length) := by simp [bLen]
theorem grown_turn (G : Game n ps) (hn : n ≤ 12) (hp : ps.length ≤ 8) {D : List Int} {cur : List (List Int)} {sts : List (List (List Int))} {lg : List Mv65} (g : Gr n ps cur sts lg) (hl : lg.length ≤ 1000) {x : Int} (x0 : 0 ≤ x) (x1 : 1 + x < (D.length : Int)) (x7 x8 x9 : Option Sl) :
    (∃ (nxt : List (List Int)) (m : Mv65) (y7 y8 y9 : Option Sl), b_law_grown_1 (rg65 n ps D cur sts lg (some (.d (.int x))) x7 x8 x9) = .nx (rg65 n ps D nxt (sts ++ [nxt]) (lg ++ [m]) (some (.d (.int x))) y7 y8 y9) ∧ InR n ps m ∧ stp ps cur m = some nxt) ∨ ∃ (y7 y8 y9 : Option Sl), b_law_grown_1 (rg65 n ps D cur sts lg (some (.d (.int x))) x7 x8 x9) = .bk (rg65 n ps D cur sts lg (some (.d (.int x))) y7 y8 y9) := by
  have n0 := G.n0
  have z0 : 0 ≤ szO n ps ∧ szO n ps ≤ 12 := by unfold szO; split <;> omega
  have bl : bLen [gmD n ps] = .ok (.int ps.length) := by simp [bLen, gmD]
  have em := v_all_moves (T := ps.length) (n := szO n ps) (by omega) (by omega) z0.1 z0.2
  obtain ⟨al, hal⟩ : ∃ al, al = (mvsO ps.length (szO n ps)).filter fun m => (stp ps cur m).isSome := ⟨_, rfl⟩
  have okA : ∀ m ∈ al, InR n ps m ∧ (stp ps cur m).isSome = true := fun m hm => by
    rw [hal] at hm
    obtain ⟨h1, h2⟩ := List.mem_filter.mp hm
    exact ⟨mvs_inr h1, h2⟩
  have l7 := lc_of (enc := mvD65) (fi := dItems (dArg m_law_all_moves (dCons (dArg bLen (dCons (dVar 0) dNil)) (dCons (dVar 2) dNil)))) (t := .nm 9) (ft := dAsB (dOne (fun d => .ok (.bool (!isNone d))) (dArg m_law_step (dCons (dVar 0) (dCons (dVar 3) (dCons (dVar 9) dNil)))))) (fe := dVar 9) (vs := [9]) (ρ := rg65 n ps D cur sts lg (some (.d (.int x))) x7 x8 x9) (xs := mvsO ps.length (szO n ps)) (st := fun m => rg65 n ps D cur sts lg (some (.d (.int x))) x7 x8 (some (.d (mvD65 m)))) (q := fun m => (stp ps cur m).isSome) (g := mvD65) (by
      rw [ev_items, (arg_of (m := m_law_all_moves) (cons_of ((arg_of (m := bLen) (cons_of (f := dVar 0) (g := dNil) rfl rfl)).trans bl) (cons_of (f := dVar 2) (g := dNil) rfl rfl))).trans em, R.bind_ok]
      rfl) (fun m hm => ⟨rfl, by
      have e := v_step G g.mom (mvs_inr hm) (by omega)
      have := asB_of (b := !isNone (st65D (stp ps cur m))) (one_of (u := fun d => PD.R.ok (.bool (!isNone d))) ((arg_of (m := m_law_step) (ρ := rg65 n ps D cur sts lg (some (.d (.int x))) x7 x8 (some (.d (mvD65 m)))) (cons_of (f := dVar 0) rfl (cons_of (f := dVar 3) rfl (cons_of (f := dVar 9) (g := dNil) rfl rfl)))).trans e))
      rw [this]
      cases stp ps cur m <;> rfl, fun _ => rfl⟩)
  rw [← hal] at l7
  have s1 : gSet _ (.nm 7) (rg65 n ps D cur sts lg (some (.d (.int x))) x7 x8 x9) = .nx (rg65 n ps D cur sts lg (some (.d (.int x))) (some (.d (.list (al.map mvD65)))) x8 x9) := set_of l7 (set_nm _ _ _)
  obtain ⟨tr, htr⟩ : ∃ tr, tr = al.filter fun m => m.2.1.isSome := ⟨_, rfl⟩
  have l8 := lc_of (enc := mvD65) (fi := dItems (dVar 7)) (t := .nm 9) (ft := dAsB (dOne (fun d => .ok (.bool (!isNone d))) (dTwo oIx (dVar 9) (dC (.int 1))))) (fe := dVar 9) (vs := [9]) (ρ := rg65 n ps D cur sts lg (some (.d (.int x))) (some (.d (.list (al.map mvD65)))) x8 x9) (xs := al) (st := fun m => rg65 n ps D cur sts lg (some (.d (.int x))) (some (.d (.list (al.map mvD65)))) x8 (some (.d (mvD65 m)))) (q := fun m => m.2.1.isSome) (g := mvD65) rfl (fun m _ => ⟨rfl, by
      obtain ⟨i, o, p⟩ := m
      cases o <;> rfl, fun _ => rfl⟩)
  rw [← htr] at l8
  have s2 : gSet _ (.nm 8) (rg65 n ps D cur sts lg (some (.d (.int x))) (some (.d (.list (al.map mvD65)))) x8 x9) = .nx (rg65 n ps D cur sts lg (some (.d (.int x))) (some (.d (.list (al.map mvD65)))) (some (.d (.list (tr.map mvD65)))) x9) := set_of l8 (set_nm _ _ _)
  have dx : ∀ ρ : Rho, dVar 1 ρ = .ok (li D) → dVar 6 ρ = .ok (.int x) → dArg bInt (dCons (dTwo oIx (dVar 1) (dTwo oAdd (dC (.int 1)) (dVar 6))) dNil) ρ = .ok (.int (ixv D (1 + x))) := fun ρ v1 v6 =>
    (arg_of (m := bInt) (cons_of (g := dNil) ((two_of v1 ((two_of (u := oAdd) (f := dC (.int 1)) rfl v6).trans (oAdd_int _ _))).trans (ix_li50 (by omega) (by omega))) rfl)).trans (bInt_int _)
  obtain ⟨ms, s3, okM⟩ : ∃ ms : List Mv65, gIf (dAnd (dAsB (dTwo oGt (dArg bLen (dCons (dVar 8) dNil)) (dC (.int 0)))) (dAsB (dTwo oEq (dTwo oMod (dArg bInt (dCons (dTwo oIx (dVar 1) (dTwo oAdd (dC (.int 1)) (dVar 6))) dNil)) (dC (.int 2))) (dC (.int 0))))) (gSet (dVar 8) (.nm 7)) gSkip (rg65 n ps D cur sts lg (some (.d (.int x))) (some (.d (.list (al.map mvD65)))) (some (.d (.list (tr.map mvD65)))) x9) = .nx (rg65 n ps D cur sts lg (some (.d (.int x))) (some (.d (.list (ms.map mvD65)))) (some (.d (.list (tr.map mvD65)))) x9) ∧ ∀ m ∈ ms, InR n ps m ∧ (stp ps cur m).isSome = true := by
    have q1 : dAsB (dTwo oGt (dArg bLen (dCons (dVar 8) dNil)) (dC (.int 0))) (rg65 n ps D cur sts lg (some (.d (.int x))) (some (.d (.list (al.map mvD65)))) (some (.d (.list (tr.map mvD65)))) x9) = .ok (decide ((0 : Int) < tr.length)) := asB_of ((two_of ((arg_of (m := bLen) (cons_of (f := dVar 8) (g := dNil) rfl rfl)).trans (bLen_mv tr)) rfl).trans (oGt_int _ _))
    have q2 := asB_of ((two_of (u := oEq) ((two_of (u := oMod) (dx (rg65 n ps D cur sts lg (some (.d (.int x))) (some (.d (.list (al.map mvD65)))) (some (.d (.list (tr.map mvD65)))) x9) rfl rfl) (g := dC (.int 2)) rfl).trans (oMod_int (by decide))) (g := dC (.int 0)) rfl).trans (oEq_int _ _))
    have q := and_of q1 q2
    cases hb : (decide ((0 : Int) < tr.length) && ((ixv D (1 + x)).fmod 2 == 0)) with
    | true =>
      rw [hb] at q
      exact ⟨tr, (if_t q).trans (set_of (d := .list (tr.map mvD65)) rfl (set_nm _ _ _)), fun m hm => okA m (by rw [htr] at hm; exact (List.mem_filter.mp hm).1)⟩
    | false =>
      rw [hb] at q
      exact ⟨al, (if_f q).trans rfl, okA⟩
  have q4 : dAsB (dTwo oEq (dArg bLen (dCons (dVar 7) dNil)) (dC (.int 0))) (rg65 n ps D cur sts lg (some (.d (.int x))) (some (.d (.list (ms.map mvD65)))) (some (.d (.list (tr.map mvD65)))) x9) = .ok ((ms.length : Int) == 0) := asB_of ((two_of ((arg_of (m := bLen) (cons_of (f := dVar 7) (g := dNil) rfl rfl)).trans (bLen_mv ms)) rfl).trans (oEq_int _ _))
  unfold b_law_grown_1
  by_cases e0 : ms.length = 0
  · right
    rw [show ((ms.length : Int) == 0) = true by rw [beq_iff_eq]; omega] at q4
    refine ⟨some (.d (.list (ms.map mvD65))), some (.d (.list (tr.map mvD65))), x9, ?_⟩
    rw [seq_of s1, seq_of s2, seq_of s3, ev_seq, if_t q4]
    rfl
  · left
    rw [show ((ms.length : Int) == 0) = false by rw [beq_eq_false_iff_ne]; omega] at q4
    have lp : (0 : Int) < ms.length := by omega
    have k0 := fmod_lo ((ixv D (1 + x)).fdiv 2) lp
    have k1 := fmod_hi ((ixv D (1 + x)).fdiv 2) lp
    have e5 := (two_of (u := oMod) ((two_of (u := oDiv) (dx (rg65 n ps D cur sts lg (some (.d (.int x))) (some (.d (.list (ms.map mvD65)))) (some (.d (.list (tr.map mvD65)))) x9) rfl rfl) (g := dC (.int 2)) rfl).trans (oDiv_lit (by decide) (by decide))) ((arg_of (m := bLen) (cons_of (f := dVar 7) (g := dNil) rfl rfl)).trans (bLen_mv ms))).trans (oMod_int (by omega))
    generalize ((ixv D (1 + x)).fdiv 2).fmod (ms.length : Int) = k at k0 k1 e5
    have hk : k.toNat < ms.length := by omega
    obtain ⟨m, hm⟩ : ∃ m, m = ms[k.toNat] := ⟨_, rfl⟩
    have ix : oIx (.list (ms.map mvD65)) (.int k) = .ok (mvD65 m) := ix_lof mvD65 k0 (by rw [List.getElem?_eq_getElem hk, hm])
    obtain ⟨Rm, sm⟩ := okM m (by rw [hm]; exact List.getElem_mem hk)
    obtain ⟨nxt, hs⟩ := Option.isSome_iff_exists.mp sm
    have s5 : gSet _ (.nm 9) (rg65 n ps D cur sts lg (some (.d (.int x))) (some (.d (.list (ms.map mvD65)))) (some (.d (.list (tr.map mvD65)))) x9) = .nx (rg65 n ps D cur sts lg (some (.d (.int x))) (some (.d (.list (ms.map mvD65)))) (some (.d (.list (tr.map mvD65)))) (some (.d (mvD65 m)))) := set_of ((two_of (u := oIx) (f := dVar 7) rfl e5).trans ix) (set_nm _ _ _)
    have es := v_step G g.mom Rm (by omega)
    rw [hs] at es
    have s6 : gSet (dArg m_law_step (dCons (dVar 0) (dCons (dVar 3) (dCons (dVar 9) dNil)))) (.nm 3) (rg65 n ps D cur sts lg (some (.d (.int x))) (some (.d (.list (ms.map mvD65)))) (some (.d (.list (tr.map mvD65)))) (some (.d (mvD65 m)))) = .nx (rg65 n ps D nxt sts lg (some (.d (.int x))) (some (.d (.list (ms.map mvD65)))) (some (.d (.list (tr.map mvD65)))) (some (.d (mvD65 m)))) := set_of ((arg_of (m := m_law_step) (cons_of (f := dVar 0) rfl (cons_of (f := dVar 3) rfl (cons_of (f := dVar 9) (g := dNil) rfl rfl)))).trans es) (set_nm _ _ _)
    have s7 := app_of (i := 5) (ds := lg.map mvD65) (d := mvD65 m) (f := dVar 9) (ρ := rg65 n ps D nxt sts lg (some (.d (.int x))) (some (.d (.list (ms.map mvD65)))) (some (.d (.list (tr.map mvD65)))) (some (.d (mvD65 m)))) rfl rfl (by rw [List.length_map]; omega)
    have s7 : gApp 5 (dVar 9) (rg65 n ps D nxt sts lg (some (.d (.int x))) (some (.d (.list (ms.map mvD65)))) (some (.d (.list (tr.map mvD65)))) (some (.d (mvD65 m)))) = .nx (rg65 n ps D nxt sts (lg ++ [m]) (some (.d (.int x))) (some (.d (.list (ms.map mvD65)))) (some (.d (.list (tr.map mvD65)))) (some (.d (mvD65 m)))) := by rw [s7]; unfold rg65; rw [List.map_append]; rfl
    have s8 := app_of (i := 4) (ds := sts.map tt) (d := tt nxt) (f := dVar 3) (ρ := rg65 n ps D nxt sts (lg ++ [m]) (some (.d (.int x))) (some (.d (.list (ms.map mvD65)))) (some (.d (.list (tr.map mvD65)))) (some (.d (mvD65 m)))) rfl rfl (by rw [List.length_map, g.len]; omega)
    have s8 : gApp 4 (dVar 3) (rg65 n ps D nxt sts (lg ++ [m]) (some (.d (.int x))) (some (.d (.list (ms.map mvD65)))) (some (.d (.list (tr.map mvD65)))) (some (.d (mvD65 m)))) = .nx (rg65 n ps D nxt (sts ++ [nxt]) (lg ++ [m]) (some (.d (.int x))) (some (.d (.list (ms.map mvD65)))) (some (.d (.list (tr.map mvD65)))) (some (.d (mvD65 m)))) := by rw [s8]; unfold rg65; rw [List.map_append (f := tt)]; rfl
    refine ⟨nxt, m, some (.d (.list (ms.map mvD65))), some (.d (.list (tr.map mvD65))), some (.d (mvD65 m)), ?_, Rm, hs⟩
    rw [seq_of s1, seq_of s2, seq_of s3, seq_if_f q4, seq_of s5, seq_of s6, seq_of s7, s8]
theorem v_grown (G : Game n ps) (hn : n ≤ 12) (hp : ps.length ≤ 8) {D : List Int} (hD : (13 : Int) ≤ D.length) : ∃ (cur : List (List Int)) (sts : List (List (List Int))) (lg : List Mv65), m_law_grown [gmD n ps, li D, .int (szO n ps)] = .ok (.tuple [.tuple (lg.map mvD65), .list (sts.map tt)]) ∧ Gr n ps cur sts lg ∧ lg.length ≤ 12 := by
  have g0 : Gr n ps (empO ps) [empO ps] [] := ⟨emp_mom G.good, (fun _ h => nomatch h), rfl, rfl, (fun k m h => by simp at h), rfl⟩
  have r0 := fmod_lo (ixv D 0) (b := 13) (by decide)
  have r1 := fmod_hi (ixv D 0) (b := 13) (by decide)
  obtain ⟨c, hc⟩ : ∃ c, c = (ixv D 0).fmod 13 := ⟨_, rfl⟩
  rw [← hc] at r0 r1
  obtain ⟨ρ', j, e, ⟨cur, sts, lg, x6, x7, x8, x9, rfl, g, hj⟩, jl⟩ := forGo_nbc (enc := PyData.int) (i := 6) (g := b_law_grown_1) (rangeI 0 c) (fun k ρ => ∃ (cur : List (List Int)) (sts : List (List (List Int))) (lg : List Mv65) (x6 x7 x8 x9 : Option Sl), ρ = rg65 n ps D cur sts lg x6 x7 x8 x9 ∧ Gr n ps cur sts lg ∧ lg.length = k) (by
    rintro k x ρ hx hk ⟨cur, sts, lg, x6, x7, x8, x9, rfl, g, hl⟩
    obtain ⟨x0, x1⟩ := mem_rangeI.mp hx
    rcases grown_turn G hn hp g (by omega) (D := D) x0 (by omega) x7 x8 x9 with ⟨nxt, m, y7, y8, y9, e, Rm, hs⟩ | ⟨y7, y8, y9, e⟩
    · exact .inl ⟨_, e, nxt, _, _, _, _, _, _, rfl, g.add Rm hs, by rw [List.length_append, List.length_singleton, hl]⟩
    · exact .inr ⟨_, e, cur, sts, lg, _, _, _, _, rfl, g, hl⟩) (rangeI 0 c) 0 (rg65 n ps D (empO ps) [empO ps] [] none none none none) (fun _ h => h) (by rw [rng_len]; omega) ⟨_, _, _, _, _, _, _, rfl, g0, rfl⟩
  refine ⟨cur, sts, lg, ?_, g, by rw [rng_len] at jl; omega⟩
  have lc := lc_of (enc := tkD n) (fi := dItems (dVar 0)) (t := .nm 10) (ft := dYes) (fe := dTup dNil) (vs := [10]) (ρ := [some (.d (gmD n ps)), some (.d (li D)), some (.d (.int (szO n ps))), none, none, none, none, none, none, none, none]) (xs := ps) (st := fun p => [some (.d (gmD n ps)), some (.d (li D)), some (.d (.int (szO n ps))), none, none, none, none, none, none, none, some (.d (tkD n p))]) (q := fun _ => true) (g := fun _ => tu []) rfl (fun p _ => ⟨rfl, rfl, fun _ => rfl⟩)
  rw [List.filter_eq_self.mpr (fun _ _ => rfl), show (ps.map fun _ => tu []) = (empO ps).map tu by unfold empO; rw [List.map_map]; rfl] at lc
  have s1 : gSet _ (.nm 3) [some (.d (gmD n ps)), some (.d (li D)), some (.d (.int (szO n ps))), none, none, none, none, none, none, none, none] = .nx [some (.d (gmD n ps)), some (.d (li D)), some (.d (.int (szO n ps))), some (.d (tt (empO ps))), none, none, none, none, none, none, none] := set_of ((arg_of (m := bTuple) (cons_of (g := dNil) lc rfl)).trans rfl) (set_nm _ _ _)
  have s2 : gOwn (dLst (dCons (dVar 3) dNil)) 4 [some (.d (gmD n ps)), some (.d (li D)), some (.d (.int (szO n ps))), some (.d (tt (empO ps))), none, none, none, none, none, none, none] = .nx [some (.d (gmD n ps)), some (.d (li D)), some (.d (.int (szO n ps))), some (.d (tt (empO ps))), some (.own [tt (empO ps)]), none, none, none, none, none, none] := rfl
  have s3 : gOwn (dLst dNil) 5 [some (.d (gmD n ps)), some (.d (li D)), some (.d (.int (szO n ps))), some (.d (tt (empO ps))), some (.own [tt (empO ps)]), none, none, none, none, none, none] = .nx (rg65 n ps D (empO ps) [empO ps] [] none none none none) := rfl
  have s4 : gFor (dRng1 (dCons (dTwo oMod (dArg bInt (dCons (dTwo oIx (dVar 1) (dC (.int 0))) dNil)) (dC (.int 13))) dNil)) (.nm 6) b_law_grown_1 (rg65 n ps D (empO ps) [empO ps] [] none none none none) = .nx (rg65 n ps D cur sts lg x6 x7 x8 x9) := by
    have r : dRng1 (dCons (dTwo oMod (dArg bInt (dCons (dTwo oIx (dVar 1) (dC (.int 0))) dNil)) (dC (.int 13))) dNil) (rg65 n ps D (empO ps) [empO ps] [] none none none none) = .ok ((rangeI 0 c).map PyData.int) := by
      have a := cons_of (g := dNil) (modV (v := 1) (ρ := rg65 n ps D (empO ps) [empO ps] [] none none none none) (L := D) (i := 0) (m := 13) rfl (by decide) (by omega) (by decide)) rfl
      show ((dCons _ dNil) _ >>= rngA1) = _
      rw [a, R.bind_ok, ← hc, rngA1_ok (by omega) (by omega)]
    rw [ev_for, r, oR_ok, e]
  show endR (g_law_grown [some (.d (gmD n ps)), some (.d (li D)), some (.d (.int (szO n ps))), none, none, none, none, none, none, none, none]) = _
  unfold g_law_grown
  rw [seq_of s1, seq_of s2, seq_of s3, seq_of s4, frz_of65 (ds := lg.map mvD65) rfl]
  show endR (gFrz 4 _ [some (.d (gmD n ps)), some (.d (li D)), some (.d (.int (szO n ps))), some (.d (tt cur)), some (.own (sts.map tt)), some (.d (.list (lg.map mvD65))), x6, x7, x8, x9, none]) = _
  rw [frz_of65 (ds := sts.map tt) rfl]
  rfl
end
end LW
set_option Elab.async false
set_option linter.all false
set_option maxRecDepth 100000
set_option maxHeartbeats 4000000
namespace LW
open PySem PySem.Spec PyProof.Rows L2 PD
section
variable {n : Int} {ps : List Pl} {C : Addr}
theorem v_size65 (n : Int) (ps : List Pl) : m_law_size [gmD n ps] = .ok (.int (szO n ps)) := by
  have bl : bLen [gmD n ps] = .ok (.int ps.length) := by simp [bLen, gmD]
  have q := asB_of ((two_of (u := oEq) ((arg_of (m := bLen) (ρ := [some (.d (gmD n ps))]) (cons_of (f := dVar 0) (g := dNil) rfl rfl)).trans bl) (g := dC (.int 0)) rfl).trans (oEq_int _ _))
  show endR (g_law_size [some (.d (gmD n ps))]) = _
  unfold g_law_size szO
  by_cases h : ps = []
  · rw [show ((ps.length : Int) == 0) = true by rw [h]; rfl] at q
    rw [seq_rt (gIf_ret q), if_pos h]
    rfl
  · have hl := List.length_pos_iff.mpr h
    rw [show ((ps.length : Int) == 0) = false by rw [beq_eq_false_iff_ne]; omega] at q
    rw [seq_of (gIf_skip q), if_neg h, ret_of ((two_of ((two_of ((two_of (f := dVar 0) (g := dC (.int 0)) rfl rfl).trans (ix_tk (by decide) (by omega))) (g := dC (.int 0)) rfl).trans (show _ = PD.R.ok (ofr n (plx ps 0).ls) from rfl)) (g := dC (.int 0)) rfl).trans (of_p0 _ _))]
    rfl
theorem v_are_sets65 {s : List (List Int)} (M : Mom n ps s) (n9 : n ≤ 900) (hp : ps.length ≤ 900) : m_law_are_sets_k65 [tt s, tt s, .int (szO n ps)] = .ok (.bool true) := by
  show endR (g_law_are_sets_k65 [some (.d (tt s)), some (.d (tt s)), some (.d (.int (szO n ps))), none]) = _
  have q : dOr (dNot (dAsB (dOne (oIsi "tuple") (dVar 0)))) (dAsB (dTwo oNe (dVar 0) (dVar 1))) [some (.d (tt s)), some (.d (tt s)), some (.d (.int (szO n ps))), none] = .ok false :=
    or_ff (not_of (b := true) (asB_of ((one_of (f := dVar 0) rfl).trans (isi_tt _)))) (asB_of (((two_of (u := oNe) (f := dVar 0) (g := dVar 1) rfl rfl).trans (oNe_tt _ _)).trans (by rw [decide_eq_true rfl]; rfl)))
  have lc := lc_of (enc := tu) (fi := dItems (dVar 0)) (t := .nm 3) (ft := dYes) (fe := dArg m_law_is_set (dCons (dVar 3) (dCons (dVar 2) dNil))) (vs := [3]) (ρ := [some (.d (tt s)), some (.d (tt s)), some (.d (.int (szO n ps))), none]) (xs := s) (st := fun l => [some (.d (tt s)), some (.d (tt s)), some (.d (.int (szO n ps))), some (.d (tu l))]) (q := fun _ => true) (g := fun _ => PyData.bool true) rfl (fun l hl => ⟨rfl, rfl, fun _ => by
    obtain ⟨k, hk, e⟩ := List.getElem_of_mem hl
    have len := M.len
    have hps : ps ≠ [] := by
      intro h
      rw [h] at len
      simp at len
      rw [len] at hk
      cases hk
    have hz : szO n ps = n := if_neg hps
    have a := M.asc (i := (k : Int)) (by omega) (by omega)
    have ee : ixr s (k : Int) = l := by
      unfold ixr
      rw [Int.toNat_natCast, List.getElem?_eq_getElem hk, ← e]
      rfl
    rw [ee] at a
    have al := a.len
    rw [hz]
    exact (arg_of (m := m_law_is_set) (cons_of (f := dVar 3) rfl (cons_of (f := dVar 2) (g := dNil) rfl rfl))).trans (v_is_set l n a (by omega))⟩)
  rw [List.filter_eq_self.mpr (fun _ _ => rfl)] at lc
  unfold g_law_are_sets_k65
  rw [seq_of (gIf_skip q), ret_of ((arg_of (m := bAll) (cons_of (g := dNil) lc rfl)).trans (bAll_map (fun _ => true) _)), List.all_eq_true.mpr (fun _ _ => rfl)]
  rfl
theorem cut_log (l : List Mv65) {c : Int} (c0 : 0 ≤ c) (c1 : c ≤ (l.length : Int)) : oCut (.tuple (l.map mvD65)) none (some c) = .ok (.tuple ((l.take c.toNat).map mvD65)) := by
  obtain ⟨j, rfl⟩ : ∃ j : Nat, c = (j : Int) := ⟨c.toNat, by omega⟩
  show PD.R.ok (PyData.tuple (PD.cutD (l.map mvD65) none (some (j : Int)))) = _
  unfold PD.cutD
  rw [HT.sIx_nat, HT.sIx_none, List.length_map, Nat.min_eq_left (by omega), Int.toNat_natCast, List.map_take]
  simp
end
end LW
set_option Elab.async false
set_option maxRecDepth 100000
set_option linter.all false
set_option maxHeartbeats 2000000
namespace LW
open PySem PySem.Spec PyProof.Rows L2 PD
theorem fld_at {i : Nat} {cs : List Addr} {fld : Str} {a : Addr} {c : Value} {d : Option Addr} {e : Ex} {ρ : Rho} {y : PyData} (h : ρ[i]? = some (some (.exn a c d e))) (hc : e.cls ∈ cs) (hf : e.fs.lookup fld = some y) : dFld i cs fld a c d ρ = .ok y := by
  unfold dFld exnOf
  rw [h]
  simp [hc, hf]
@[simp] theorem seqO_exc (e : Ex) (ρ : Rho) (g : Sn) : seqO (.exc e ρ) g = .exc e ρ := rfl
@[simp] theorem endR_exc (e : Ex) (ρ : Rho) : endR (.exc e ρ) = .exc e := rfl
@[simp] theorem ev_raise1 (C : Addr) (fld : Str) (f : Dn) (ρ : Rho) : gRaise1 C fld f ρ = oR (f ρ) ρ fun d => .exc ⟨C, [(fld, d)]⟩ ρ := rfl
end LW
set_option Elab.async false
set_option linter.all false
set_option maxRecDepth 100000
set_option maxHeartbeats 4000000
namespace LW
open PySem PySem.Spec PyProof.Rows L2 PD
section
variable {C cB : Addr} {n z : Int} {ps : List Pl} {fr : List PyData} {sets : List (List Int)}
def bad66 (cB : Addr) : SO := sRaise1 cB "position" (oMask (dVar 3))
theorem replay_no (G : Game n ps) (F : FrOk n ps fr) (hz : z = n) (hp9 : ps.length ≤ 900) {S0 : Store} {a b : PyData} {t : List (List Int)} {m0 : Mv65} {rest : List Mv65} (R0 : InR n ps m0) (h0 : stp ps t m0 = none) : ∀ (l : List Mv65) (k : Int) (s : List (List Int)) (x3 x4 : Option Vl), Mom n ps s → (∀ m ∈ l, InR n ps m) → Path ps s l t → ∃ ρ' S', sForGo (.tp [.nm 3, .nm 4]) (bodyO C (bad66 cB)) ((idx k (l ++ m0 :: rest)).map (encI mvD65)) [some (.p a), some (.p b), some (.rf S0.length), x3, x4] (S0 ++ momT C S0.length ps fr z s) = .exc ⟨cB, [("position", .int (k + l.length))]⟩ ρ' S'
  | [], k, s, x3, x4, M, R, h => by
    have h : s = t := h
    subst h
    have e := turn_no (C := C) (bad := bad66 cB) G M F hz (S0 := S0) (a := a) (b := b) (c := .int k) R0 h0 (e := ⟨cB, [("position", .int k)]⟩) (ρ' := [some (.p a), some (.p b), some (.rf S0.length), some (.p (.int k)), some (.p (mvD65 m0))]) (S' := S0 ++ momT C S0.length ps fr z s) (by
      unfold bad66 sRaise1
      rw [roMask (f := dVar 3) (d := .int k) rfl, oRO_ok])
    refine ⟨[some (.p a), some (.p b), some (.rf S0.length), some (.p (.int k)), some (.p (mvD65 m0))], S0 ++ momT C S0.length ps fr z s, ?_⟩
    show sForGo _ _ (encI mvD65 (k, m0) :: (idx (k + 1) rest).map (encI mvD65)) _ _ = _
    unfold sForGo
    rw [show (Tg.tp [.nm 3, .nm 4]).setO (.p (encI mvD65 (k, m0))) [some (.p a), some (.p b), some (.rf S0.length), x3, x4] = some [some (.p a), some (.p b), some (.rf S0.length), some (.p (.int k)), some (.p (mvD65 m0))] by simp [encI]]
    dsimp only
    rw [e, List.length_nil, show k + ((0 : Nat) : Int) = k by omega]
  | m :: l, k, s, x3, x4, M, R, ⟨s1, h1, h2⟩ => by
    have Rm := R m List.mem_cons_self
    have e := turn_ok (C := C) (bad := bad66 cB) G M F hz hp9 (S0 := S0) (a := a) (b := b) (c := .int k) Rm h1
    obtain ⟨ρ', S', e2⟩ := replay_no G F hz hp9 (S0 := S0) (a := a) (b := b) (rest := rest) R0 h0 l (k + 1) s1 (some (.p (.int k))) (some (.p (mvD65 m))) (M.step Rm h1) (fun x hx => R x (List.mem_cons_of_mem _ hx)) h2
    refine ⟨ρ', S', ?_⟩
    show sForGo _ _ (encI mvD65 (k, m) :: (idx (k + 1) (l ++ m0 :: rest)).map (encI mvD65)) _ _ = _
    unfold sForGo
    rw [show (Tg.tp [.nm 3, .nm 4]).setO (.p (encI mvD65 (k, m))) [some (.p a), some (.p b), some (.rf S0.length), x3, x4] = some [some (.p a), some (.p b), some (.rf S0.length), some (.p (.int k)), some (.p (mvD65 m))] by simp [encI]]
    dsimp only
    rw [e]
    dsimp only
    rw [e2, List.length_cons, show k + 1 + (l.length : Int) = k + ((l.length + 1 : Nat) : Int) by omega]
theorem begin66 {l : List Mv65} {Fd : Pl → PyData} (hF : ∀ p ∈ ps, m_free_sets [ofr n p.ls] = .ok (Fd p)) (n0 : 0 ≤ n) (n9 : n ≤ 900) (hp9 : ps.length ≤ 900) : sSet (oArg (m_empty_moment C) (oCons (oMask (dVar 0)) oNil)) (.nm 2) (startO 5 [Vl.p (gmD n ps), .p (.tuple (l.map mvD65))]) [] = .nx [some (.p (gmD n ps)), some (.p (.tuple (l.map mvD65))), some (.rf 0), none, none] ([] ++ momT C 0 ps (ps.map Fd) (szO n ps) (empO ps)) :=
  roSet ((roArg (roCons (g := oMask (dVar 0)) (x := .p (gmD n ps)) rfl roNil)).trans (v_empty (C := C) (S0 := []) hF n0 n9 hp9)) (setO_nm _ _ _)
theorem v_replay66 (G : Game n ps) (hn : n ≤ 12) (hp9 : ps.length ≤ 900) {l : List Mv65} {t : List (List Int)} (R : ∀ m ∈ l, InR n ps m) (h : Path ps (empO ps) l t) : m_replay_k66 cB C [gmD n ps, .tuple (l.map mvD65)] = .ok (tt t) := by
  obtain ⟨Fd, hF, FO⟩ := free_all (n := n) (ps := ps) G.good G.n0 hn
  have E := emp_mom (n := n) (ps := ps) G.good
  have core : ∃ S, runO 5 2 (g_replay_k66 cB C) [.p (gmD n ps), .p (.tuple (l.map mvD65))] [] = .ok (.p (tt t)) S := by
    rw [roRun (p := 2) (by rfl)]
    have ei : ∀ S, oMaskI (dEnum (dCons (dVar 1) dNil)) [some (Vl.p (gmD n ps)), some (.p (.tuple (l.map mvD65))), some (.rf 0), none, none] S = .ok ((idx 0 l).map (encI mvD65)) S := fun S => roMaskI (enum_log l none none none (gmD n ps))
    have loop : ∃ y3 y4, sForGo (.tp [.nm 3, .nm 4]) (bodyO C (bad66 cB)) ((idx 0 l).map (encI mvD65)) [some (.p (gmD n ps)), some (.p (.tuple (l.map mvD65))), some (.rf 0), none, none] ([] ++ momT C 0 ps (ps.map Fd) (szO n ps) (empO ps)) = .nx [some (.p (gmD n ps)), some (.p (.tuple (l.map mvD65))), some (.rf 0), y3, y4] ([] ++ momT C 0 ps (ps.map Fd) (szO n ps) t) := by
      cases l with
      | nil =>
        have h : empO ps = t := h
        subst h
        exact ⟨none, none, rfl⟩
      | cons m l =>
        have hps : ps ≠ [] := by
          intro e
          have a := (R m List.mem_cons_self).i1
          have b := (R m List.mem_cons_self).i0
          rw [e] at a
          simp at a
          omega
        exact replay_go (C := C) (bad := bad66 cB) G FO (if_neg hps) hp9 (S0 := []) (a := gmD n ps) (m :: l) 0 (empO ps) none none E R h
    obtain ⟨y3, y4, e2⟩ := loop
    have s2 : sFor (oMaskI (dEnum (dCons (dVar 1) dNil))) (.tp [.nm 3, .nm 4]) (bodyO C (bad66 cB)) [some (Vl.p (gmD n ps)), some (.p (.tuple (l.map mvD65))), some (.rf 0), none, none] ([] ++ momT C 0 ps (ps.map Fd) (szO n ps) (empO ps)) = .nx [some (Vl.p (gmD n ps)), some (.p (.tuple (l.map mvD65))), some (.rf 0), y3, y4] ([] ++ momT C 0 ps (ps.map Fd) (szO n ps) t) := by
      rw [ev_sFor, ei, oRO_ok]
      exact e2
    have s3 : sRet (oSnap (dArg bTuple (dCons (dAt C "sets" (dVar 2)) dNil))) [some (Vl.p (gmD n ps)), some (.p (.tuple (l.map mvD65))), some (.rf 0), y3, y4] ([] ++ momT C 0 ps (ps.map Fd) (szO n ps) t) = .rt (.p (tt t)) ([] ++ momT C 0 ps (ps.map Fd) (szO n ps) t) := ret_sets (S0 := [])
    refine ⟨[] ++ momT C 0 ps (ps.map Fd) (szO n ps) t, ?_⟩
    unfold g_replay_k66
    rw [roSeq (begin66 hF G.n0 G.n1 hp9)]
    show endO (sSeq (sFor _ _ (bodyO C (bad66 cB))) _ _ _) = _
    rw [roSeq s2, s3]
    rfl
  obtain ⟨S, e⟩ := core
  unfold m_replay_k66 pureO
  rw [show [gmD n ps, PyData.tuple (l.map mvD65)].map Vl.p = [.p (gmD n ps), .p (.tuple (l.map mvD65))] from rfl, e]
  dsimp only
  rw [tt_snap]
theorem v_replay66_no (G : Game n ps) (hn : n ≤ 12) (hp9 : ps.length ≤ 900) {l : List Mv65} {t : List (List Int)} {m0 : Mv65} {rest : List Mv65} (R : ∀ m ∈ l, InR n ps m) (h : Path ps (empO ps) l t) (R0 : InR n ps m0) (h0 : stp ps t m0 = none) : m_replay_k66 cB C [gmD n ps, .tuple ((l ++ m0 :: rest).map mvD65)] = .exc ⟨cB, [("position", .int l.length)]⟩ := by
  obtain ⟨Fd, hF, FO⟩ := free_all (n := n) (ps := ps) G.good G.n0 hn
  have E := emp_mom (n := n) (ps := ps) G.good
  have hps : ps ≠ [] := by
    intro e
    have a := R0.i1
    have b := R0.i0
    rw [e] at a
    simp at a
    omega
  obtain ⟨ρ', S', e2⟩ := replay_no (C := C) (cB := cB) G FO (if_neg hps) hp9 (S0 := []) (a := gmD n ps) (b := .tuple ((l ++ m0 :: rest).map mvD65)) (rest := rest) R0 h0 l 0 (empO ps) none none E R h
  have core : runO 5 2 (g_replay_k66 cB C) [.p (gmD n ps), .p (.tuple ((l ++ m0 :: rest).map mvD65))] [] = .exc ⟨cB, [("position", .int l.length)]⟩ S' := by
    rw [roRun (p := 2) (by rfl)]
    have ei : ∀ S, oMaskI (dEnum (dCons (dVar 1) dNil)) [some (Vl.p (gmD n ps)), some (.p (.tuple ((l ++ m0 :: rest).map mvD65))), some (.rf 0), none, none] S = .ok ((idx 0 (l ++ m0 :: rest)).map (encI mvD65)) S := fun S => roMaskI (enum_log (l ++ m0 :: rest) none none none (gmD n ps))
    have s2 : sFor (oMaskI (dEnum (dCons (dVar 1) dNil))) (.tp [.nm 3, .nm 4]) (bodyO C (bad66 cB)) [some (Vl.p (gmD n ps)), some (.p (.tuple ((l ++ m0 :: rest).map mvD65))), some (.rf 0), none, none] ([] ++ momT C 0 ps (ps.map Fd) (szO n ps) (empO ps)) = .exc ⟨cB, [("position", .int l.length)]⟩ ρ' S' := by
      rw [ev_sFor, ei, oRO_ok]
      rw [show (0 : Int) + (l.length : Int) = l.length by omega] at e2
      exact e2
    unfold g_replay_k66
    rw [roSeq (begin66 hF G.n0 G.n1 hp9)]
    show endO (sSeq (sFor _ _ (bodyO C (bad66 cB))) _ _ _) = _
    rw [ev_sSeq, s2]
    rfl
  unfold m_replay_k66 pureO
  rw [show [gmD n ps, PyData.tuple ((l ++ m0 :: rest).map mvD65)].map Vl.p = [.p (gmD n ps), .p (.tuple ((l ++ m0 :: rest).map mvD65))] from rfl, core]
theorem v_refused66 (G : Game n ps) (hn : n ≤ 12) (hp9 : ps.length ≤ 900) {l : List Mv65} {t : List (List Int)} {m0 : Mv65} {rest : List Mv65} (R : ∀ m ∈ l, InR n ps m) (h : Path ps (empO ps) l t) (R0 : InR n ps m0) (h0 : stp ps t m0 = none) : m_law_refused_k66 cB C [gmD n ps, .tuple ((l ++ m0 :: rest).map mvD65)] = .ok (.int l.length) := by
  have e := v_replay66_no (cB := cB) (C := C) G hn hp9 (rest := rest) R h R0 h0
  generalize PyData.tuple ((l ++ m0 :: rest).map mvD65) = T at e
  show endR (g_law_refused_k66 cB C [some (.d (gmD n ps)), some (.d T), none]) = _
  unfold g_law_refused_k66
  have ex : gExpr (dArg (m_replay_k66 cB C) (dCons (dVar 0) (dCons (dVar 1) dNil))) [some (.d (gmD n ps)), some (.d T), none] = .exc ⟨cB, [("position", .int l.length)]⟩ [some (.d (gmD n ps)), some (.d T), none] := by
    rw [ev_expr, (arg_of (m := m_replay_k66 cB C) (cons_of (f := dVar 0) rfl (cons_of (f := dVar 1) (g := dNil) rfl rfl))).trans e]
    rfl
  rw [seq_rt (gTry_exc (v := .int l.length) ex (by simp) fun a cl d => by
    have i1 : ∀ b, dIsiE 2 [(cB, b)] a cl d [some (.d (gmD n ps)), some (.d T), some (.exn a cl d ⟨cB, [("position", .int l.length)]⟩)] = .ok (.bool b) := fun b => isiE_at rfl (by simp [List.lookup])
    have i2 : dFld 2 [cB] "position" a cl d [some (.d (gmD n ps)), some (.d T), some (.exn a cl d ⟨cB, [("position", .int l.length)]⟩)] = .ok (.int l.length) := fld_at rfl (by simp) (by simp [List.lookup])
    have q1 := or_ff (not_of (asB_of (i1 true))) (not_of (asB_of (i1 true)))
    have q2 := or_ff (asB_of (i1 false)) (not_of (asB_of ((arg_of (m := m_law_is_integer) (cons_of (g := dNil) i2 rfl)).trans (v_integer _))))
    show gSeq _ _ [some (.d (gmD n ps)), some (.d T), some (.exn a cl d ⟨cB, [("position", .int l.length)]⟩)] = _
    rw [seq_of (gIf_skip q1), seq_of (gIf_skip q2), ret_of i2])]
  rfl
theorem v_near66 (M : Mom n ps sets) (n9 : n ≤ 900) {m : Mv65} (R : InR n ps m) : ∃ b : Bool, m_law_is_near [gmD n ps, tt sets, mvD65 m] = .ok (.bool b) := by
  obtain ⟨i, out, p⟩ := m
  have i0 : 0 ≤ i := R.i0
  have i1 : i < (ps.length : Int) := R.i1
  have al := (M.asc i0 i1).len
  show ∃ b : Bool, endR (g_law_is_near [some (.d (gmD n ps)), some (.d (tt sets)), some (.d (mvD65 (i, out, p)))]) = _
  have e0 : dTwo oIx (dVar 2) (dC (.int 0)) [some (.d (gmD n ps)), some (.d (tt sets)), some (.d (mvD65 (i, out, p)))] = .ok (.int i) := (two_of rfl rfl).trans (show _ = PD.R.ok (PyData.int i) from rfl)
  have e1 : dTwo oIx (dVar 2) (dC (.int 1)) [some (.d (gmD n ps)), some (.d (tt sets)), some (.d (mvD65 (i, out, p)))] = .ok (oI out) := (two_of rfl rfl).trans (show _ = PD.R.ok (oI out) from rfl)
  have e2 : dTwo oIx (dVar 2) (dC (.int 2)) [some (.d (gmD n ps)), some (.d (tt sets)), some (.d (mvD65 (i, out, p)))] = .ok (.int p) := (two_of rfl rfl).trans (show _ = PD.R.ok (PyData.int p) from rfl)
  have eo : dTwo oIx (dVar 1) (dTwo oIx (dVar 2) (dC (.int 0))) [some (.d (gmD n ps)), some (.d (tt sets)), some (.d (mvD65 (i, out, p)))] = .ok (tu (ixr sets i)) := (two_of (f := dVar 1) rfl e0).trans (ix_tt i0 (by rw [M.len]; exact i1))
  have q1 := asB_of (one_of (u := fun d => PD.R.ok (.bool (isNone d))) e1)
  unfold g_law_is_near
  cases out with
  | none => exact ⟨false, by rw [seq_rt (gIf_ret (or_t q1))]; rfl⟩
  | some o =>
    have q1 : _ = PD.R.ok false := q1
    have q2 := asB_of ((two_of (u := oNotIn) e1 eo).trans (oNotIn_tu o _))
    have q3 := asB_of ((two_of (u := oIn) e2 eo).trans (oIn_tu p _))
    cases hb : (!decide (o ∈ ixr sets i)) with
    | true =>
      rw [hb] at q2
      exact ⟨false, by rw [seq_rt (gIf_ret (or_f q1 (or_t q2)))]; rfl⟩
    | false =>
      rw [hb] at q2
      cases hb2 : decide (p ∈ ixr sets i) with
      | true =>
        rw [hb2] at q3
        exact ⟨false, by rw [seq_rt (gIf_ret (or_f q1 (or_f q2 q3)))]; rfl⟩
      | false =>
        rw [hb2] at q3
        have el : dTwo oIx (dTwo oIx (dTwo oIx (dVar 0) (dTwo oIx (dVar 2) (dC (.int 0)))) (dC (.int 0))) (dC (.int 1)) [some (.d (gmD n ps)), some (.d (tt sets)), some (.d (mvD65 (i, some o, p)))] = .ok (tt (plx ps i).ls) := (two_of ((two_of ((two_of (f := dVar 0) rfl e0).trans (ix_tk i0 i1)) (g := dC (.int 0)) rfl).trans (show _ = PD.R.ok (ofr n (plx ps i).ls) from rfl)) (g := dC (.int 1)) rfl).trans (of_p1 _ _)
        have ee := (arg_of (m := m_law_exchanged) (cons_of eo (cons_of e1 (cons_of (g := dNil) e2 rfl)))).trans (v_law_exch _ o p (by omega))
        have ef := (arg_of (m := m_law_is_free) (cons_of el (cons_of (g := dNil) ee rfl))).trans (v_law_free _ _)
        exact ⟨_, by rw [seq_of (gIf_skip (or_ff q1 (or_ff q2 q3))), ret_of ef]; rfl⟩
end
end LW
set_option Elab.async false
set_option linter.all false
set_option maxRecDepth 100000
set_option maxHeartbeats 4000000
namespace LW
open PySem PySem.Spec PyProof.Rows L2 PD
def r66 (ns : List Int) (n : Int) (ps : List Pl) (D : List Int) (sts : List (List (List Int))) (lg : List Mv65) (cur : List (List Int)) (x7 x8 x9 x10 x11 : Option Sl) : Rho := [some (.d (li ns)), some (.d (gmD n ps)), some (.d (.int (szO n ps))), some (.d (li D)), some (.d (.tuple [.tuple (lg.map mvD65), .list (sts.map tt)])), some (.d (.tuple (lg.map mvD65))), some (.d (tt cur)), x7, x8, x9, x10, x11, none, none]
theorem add_mv {a b : List Mv65} (h : a.length + b.length ≤ 1000) : oAdd (.tuple (a.map mvD65)) (.tuple (b.map mvD65)) = .ok (.tuple ((a ++ b).map mvD65)) := by
  have e : oAdd (.tuple (a.map mvD65)) (.tuple (b.map mvD65)) = .ok (.tuple (a.map mvD65 ++ b.map mvD65)) := if_pos (by rw [List.length_map, List.length_map, sizeLine_eq]; omega)
  rw [e, List.map_append]
theorem main_k66 (cB C : Addr) (ns : List Int) (hn : ns.length ≤ 63) : m_law_k66 cB C [.list (ns.map .int)] = .ok (.bool true) := by
  obtain ⟨n, ps, e1, G, _, h3, n4⟩ := v_game86' ns 0 (by decide)
  obtain ⟨c8, e8⟩ := v_cell ns 8 (by decide)
  obtain ⟨c9, e9⟩ := v_cell ns 9 (by decide)
  obtain ⟨D, eD, hD, _⟩ := v_draws c8 13 (by decide) (by decide)
  obtain ⟨E, eE, hE, _⟩ := v_draws c9 6 (by decide) (by decide)
  have hD2 : D.length = 13 := hD
  have hE2 : E.length = 6 := hE
  have n0 := G.n0
  obtain ⟨cur, sts, lg, eg, g, lg12⟩ := v_grown G (by omega) (by omega) (D := D) (by omega)
  obtain ⟨t, ht, P⟩ := g.path lg.length (Nat.le_refl _)
  rw [g.last] at ht
  cases ht
  rw [List.take_length] at P
  have z0 : 0 ≤ szO n ps ∧ szO n ps ≤ 12 := by unfold szO; split <;> omega
  have em := v_all_moves (T := ps.length) (n := szO n ps) (by omega) (by omega) z0.1 z0.2
  have bl : bLen [.tuple (lg.map mvD65)] = .ok (.int lg.length) := by simp [bLen]
  have blg : bLen [gmD n ps] = .ok (.int ps.length) := by simp [bLen, gmD]
  have er := v_replay66 (cB := cB) (C := C) G (by omega) (by omega) g.inr P
  have M := g.mom
  have es := v_are_sets65 M G.n1 (by omega)
  have s1 : gSet (dArg m_law_game_k86 (dCons (dVar 0) (dCons (dC (.int 0)) (dCons (dC (.bool false)) dNil)))) (.nm 1) [some (.d (li ns)), none, none, none, none, none, none, none, none, none, none, none, none, none] = .nx [some (.d (li ns)), some (.d (gmD n ps)), none, none, none, none, none, none, none, none, none, none, none, none] := set_of ((arg_of (cons_of (f := dVar 0) rfl (cons_of (f := dC (.int 0)) rfl (cons_of (f := dC (.bool false)) (g := dNil) rfl rfl)))).trans e1) (set_nm _ _ _)
  have s2 : gSet (dArg m_law_size (dCons (dVar 1) dNil)) (.nm 2) [some (.d (li ns)), some (.d (gmD n ps)), none, none, none, none, none, none, none, none, none, none, none, none] = .nx [some (.d (li ns)), some (.d (gmD n ps)), some (.d (.int (szO n ps))), none, none, none, none, none, none, none, none, none, none, none] := set_of ((arg_of (m := m_law_size) (cons_of (f := dVar 1) (g := dNil) rfl rfl)).trans (v_size65 n ps)) (set_nm _ _ _)
  have s3 : gSet (dArg m_law_draws (dCons (dArg m_law_cell (dCons (dVar 0) (dCons (dC (.int 8)) dNil))) (dCons (dC (.int 13)) dNil))) (.nm 3) [some (.d (li ns)), some (.d (gmD n ps)), some (.d (.int (szO n ps))), none, none, none, none, none, none, none, none, none, none, none] = .nx [some (.d (li ns)), some (.d (gmD n ps)), some (.d (.int (szO n ps))), some (.d (li D)), none, none, none, none, none, none, none, none, none, none] := set_of ((arg_of (cons_of ((arg_of (cons_of (f := dVar 0) rfl (cons_of (f := dC (.int 8)) (g := dNil) rfl rfl))).trans e8) (cons_of (f := dC (.int 13)) (g := dNil) rfl rfl))).trans eD) (set_nm _ _ _)
  have s4 : gSet (dArg m_law_grown (dCons (dVar 1) (dCons (dVar 3) (dCons (dVar 2) dNil)))) (.nm 4) [some (.d (li ns)), some (.d (gmD n ps)), some (.d (.int (szO n ps))), some (.d (li D)), none, none, none, none, none, none, none, none, none, none] = .nx [some (.d (li ns)), some (.d (gmD n ps)), some (.d (.int (szO n ps))), some (.d (li D)), some (.d (.tuple [.tuple (lg.map mvD65), .list (sts.map tt)])), none, none, none, none, none, none, none, none, none] := set_of ((arg_of (m := m_law_grown) (cons_of (f := dVar 1) rfl (cons_of (f := dVar 3) rfl (cons_of (f := dVar 2) (g := dNil) rfl rfl)))).trans eg) (set_nm _ _ _)
  have s5 : gSet (dTwo oIx (dVar 4) (dC (.int 0))) (.nm 5) [some (.d (li ns)), some (.d (gmD n ps)), some (.d (.int (szO n ps))), some (.d (li D)), some (.d (.tuple [.tuple (lg.map mvD65), .list (sts.map tt)])), none, none, none, none, none, none, none, none, none] = .nx [some (.d (li ns)), some (.d (gmD n ps)), some (.d (.int (szO n ps))), some (.d (li D)), some (.d (.tuple [.tuple (lg.map mvD65), .list (sts.map tt)])), some (.d (.tuple (lg.map mvD65))), none, none, none, none, none, none, none, none] := set_of ((two_of rfl rfl).trans (oIx_pair0 _ _)) (set_nm _ _ _)
  have s6 : gSet (dTwo oIx (dTwo oIx (dVar 4) (dC (.int 1))) (dArg bLen (dCons (dVar 5) dNil))) (.nm 6) [some (.d (li ns)), some (.d (gmD n ps)), some (.d (.int (szO n ps))), some (.d (li D)), some (.d (.tuple [.tuple (lg.map mvD65), .list (sts.map tt)])), some (.d (.tuple (lg.map mvD65))), none, none, none, none, none, none, none, none] = .nx (r66 ns n ps D sts lg cur none none none none none) := set_of ((two_of ((two_of (f := dVar 4) (g := dC (.int 1)) rfl rfl).trans (oIx_pair1 _ _)) ((arg_of (m := bLen) (cons_of (f := dVar 5) (g := dNil) rfl rfl)).trans bl)).trans (ix_lof tt (by omega) (show sts[((lg.length : Int)).toNat]? = some cur from g.last))) (set_nm _ _ _)
  have q7 : dNot (dAsB (dArg m_law_are_sets_k65 (dCons (dArg (m_replay_k66 cB C) (dCons (dVar 1) (dCons (dVar 5) dNil))) (dCons (dVar 6) (dCons (dVar 2) dNil))))) (r66 ns n ps D sts lg cur none none none none none) = .ok false :=
    not_of (b := true) (asB_of ((arg_of (m := m_law_are_sets_k65) (cons_of ((arg_of (m := m_replay_k66 cB C) (cons_of (f := dVar 1) rfl (cons_of (f := dVar 5) (g := dNil) rfl rfl))).trans er) (cons_of (f := dVar 6) rfl (cons_of (f := dVar 2) (g := dNil) rfl rfl)))).trans es))
  obtain ⟨mv, hmv⟩ : ∃ mv, mv = mvsO ps.length (szO n ps) := ⟨_, rfl⟩
  rw [← hmv] at em
  have inM : ∀ m ∈ mv, InR n ps m := fun m hm => mvs_inr (by rw [← hmv]; exact hm)
  have s8 : gSet (dArg m_law_all_moves (dCons (dArg bLen (dCons (dVar 1) dNil)) (dCons (dVar 2) dNil))) (.nm 7) (r66 ns n ps D sts lg cur none none none none none) = .nx (r66 ns n ps D sts lg cur (some (.d (.list (mv.map mvD65)))) none none none none) := set_of ((arg_of (m := m_law_all_moves) (cons_of ((arg_of (m := bLen) (cons_of (f := dVar 1) (g := dNil) rfl rfl)).trans blg) (cons_of (f := dVar 2) (g := dNil) rfl rfl))).trans em) (set_nm _ _ _)
  have q9 : dAsB (dTwo oEq (dArg bLen (dCons (dVar 7) dNil)) (dC (.int 0))) (r66 ns n ps D sts lg cur (some (.d (.list (mv.map mvD65)))) none none none none) = .ok ((mv.length : Int) == 0) := asB_of ((two_of ((arg_of (m := bLen) (cons_of (f := dVar 7) (g := dNil) rfl rfl)).trans (bLen_mv mv)) rfl).trans (oEq_int _ _))
  show endR (g_law_k66 cB C [some (.d (li ns)), none, none, none, none, none, none, none, none, none, none, none, none, none]) = _
  unfold g_law_k66
  rw [seq_of s1, seq_of s2, seq_of s3, seq_of s4, seq_of s5, seq_of s6, seq_of (gIf_skip q7), seq_of s8]
  by_cases m0 : mv.length = 0
  · rw [show ((mv.length : Int) == 0) = true by rw [beq_iff_eq]; omega] at q9
    have lg0 : lg = [] := by
      cases hl : lg with
      | nil => rfl
      | cons m l =>
        have Rm := g.inr m (by rw [hl]; exact List.mem_cons_self)
        have hps : ps ≠ [] := by
          intro e
          have a := Rm.i1
          have b := Rm.i0
          rw [e] at a
          simp at a
          omega
        have : m ∈ mv := by
          rw [hmv]
          refine mem_mvs.mpr ⟨⟨Rm.i0, Rm.i1⟩, ?_, ?_⟩
          · rw [show szO n ps = n from if_neg hps]; exact Rm.o
          · rw [show szO n ps = n from if_neg hps]; exact ⟨Rm.p0, Rm.p1⟩
        rw [List.length_eq_zero_iff.mp m0] at this
        cases this
    subst lg0
    have r : dTwo oEq (dVar 5) (dTup dNil) (r66 ns n ps D sts [] cur (some (.d (.list (mv.map mvD65)))) none none none none) = .ok (.bool true) := (two_of (f := dVar 5) (a := tu []) (b := tu []) rfl rfl).trans ((oEq_tu [] []).trans rfl)
    rw [seq_rt ((if_t q9).trans (ret_of r))]
    rfl
  rw [show ((mv.length : Int) == 0) = false by rw [beq_eq_false_iff_ne]; omega] at q9
  rw [seq_if_f q9]
  have lm : (0 : Int) < mv.length := by omega
  have s10 : gSet (dArg m_law_draws (dCons (dArg m_law_cell (dCons (dVar 0) (dCons (dC (.int 9)) dNil))) (dCons (dC (.int 6)) dNil))) (.nm 8) (r66 ns n ps D sts lg cur (some (.d (.list (mv.map mvD65)))) none none none none) = .nx (r66 ns n ps D sts lg cur (some (.d (.list (mv.map mvD65)))) (some (.d (li E))) none none none) := set_of ((arg_of (cons_of ((arg_of (cons_of (f := dVar 0) rfl (cons_of (f := dC (.int 9)) (g := dNil) rfl rfl))).trans e9) (cons_of (f := dC (.int 6)) (g := dNil) rfl rfl))).trans eE) (set_nm _ _ _)
  obtain ⟨wr, hwr⟩ : ∃ wr, wr = mv.filter fun m => (stp ps cur m).isNone := ⟨_, rfl⟩
  have okW : ∀ m ∈ wr, InR n ps m ∧ stp ps cur m = none := fun m hm => by
    rw [hwr] at hm
    obtain ⟨a, b⟩ := List.mem_filter.mp hm
    exact ⟨inM m a, Option.isNone_iff_eq_none.mp b⟩
  have hps : ps ≠ [] := by
    intro e
    have : mv = [] := by rw [hmv, e]; rfl
    rw [this] at m0
    exact m0 rfl
  have hz : szO n ps = n := if_neg hps
  have n1 : 0 < n := by
    cases hm : mv with
    | nil => rw [hm] at m0; exact absurd rfl m0
    | cons m l =>
      have Rm := inM m (by rw [hm]; exact List.mem_cons_self)
      have := Rm.p0
      have := Rm.p1
      omega
  have lps := List.length_pos_iff.mpr hps
  have wne : wr ≠ [] := by
    have : ((0, some 0, 0) : Mv65) ∈ wr := by
      rw [hwr, List.mem_filter, hmv]
      refine ⟨mem_mvs.mpr ⟨⟨Int.le_refl 0, by omega⟩, fun x hx => by cases hx; exact ⟨Int.le_refl 0, by omega⟩, ⟨Int.le_refl 0, by rw [hz]; exact n1⟩⟩, ?_⟩
      unfold stp
      by_cases h0 : (0 : Int) ∈ ixr cur 0
      · rw [if_pos h0]; rfl
      · rw [if_neg h0, if_neg]
        · rfl
        · unfold okOut
          simp [h0]
    intro e
    rw [e] at this
    cases this
  have l9 := lc_of (enc := mvD65) (fi := dItems (dVar 7)) (t := .nm 12) (ft := dAsB (dOne (fun d => .ok (.bool (isNone d))) (dArg m_law_step (dCons (dVar 1) (dCons (dVar 6) (dCons (dVar 12) dNil)))))) (fe := dVar 12) (vs := [12]) (ρ := r66 ns n ps D sts lg cur (some (.d (.list (mv.map mvD65)))) (some (.d (li E))) none none none) (xs := mv) (st := fun m => (r66 ns n ps D sts lg cur (some (.d (.list (mv.map mvD65)))) (some (.d (li E))) none none none).set 12 (some (.d (mvD65 m)))) (q := fun m => (stp ps cur m).isNone) (g := mvD65) rfl (fun m hm => ⟨rfl, by
      have e := v_step G M (inM m hm) (by omega)
      have := asB_of (b := isNone (st65D (stp ps cur m))) (one_of (u := fun d => PD.R.ok (.bool (isNone d))) ((arg_of (m := m_law_step) (ρ := (r66 ns n ps D sts lg cur (some (.d (.list (mv.map mvD65)))) (some (.d (li E))) none none none).set 12 (some (.d (mvD65 m)))) (cons_of (f := dVar 1) rfl (cons_of (f := dVar 6) rfl (cons_of (f := dVar 12) (g := dNil) rfl rfl)))).trans e))
      rw [this]
      cases stp ps cur m <;> rfl, fun _ => rfl⟩)
  rw [← hwr] at l9
  have s11 : gSet _ (.nm 9) (r66 ns n ps D sts lg cur (some (.d (.list (mv.map mvD65)))) (some (.d (li E))) none none none) = .nx (r66 ns n ps D sts lg cur (some (.d (.list (mv.map mvD65)))) (some (.d (li E))) (some (.d (.list (wr.map mvD65)))) none none) := set_of l9 (set_nm _ _ _)
  have ex : ∀ m : Mv65, ∃ b : Bool, m ∈ wr → m_law_is_near [gmD n ps, tt cur, mvD65 m] = .ok (.bool b) := fun m => by
    by_cases h : m ∈ wr
    · obtain ⟨b, e⟩ := v_near66 M G.n1 (okW m h).1
      exact ⟨b, fun _ => e⟩
    · exact ⟨false, fun h2 => absurd h2 h⟩
  obtain ⟨nq, hnq⟩ := Classical.axiomOfChoice ex
  have l10 := lc_of (enc := mvD65) (fi := dItems (dVar 9)) (t := .nm 12) (ft := dAsB (dArg m_law_is_near (dCons (dVar 1) (dCons (dVar 6) (dCons (dVar 12) dNil))))) (fe := dVar 12) (vs := [12]) (ρ := r66 ns n ps D sts lg cur (some (.d (.list (mv.map mvD65)))) (some (.d (li E))) (some (.d (.list (wr.map mvD65)))) none none) (xs := wr) (st := fun m => (r66 ns n ps D sts lg cur (some (.d (.list (mv.map mvD65)))) (some (.d (li E))) (some (.d (.list (wr.map mvD65)))) none none).set 12 (some (.d (mvD65 m)))) (q := nq) (g := mvD65) rfl (fun m hm => ⟨rfl, asB_of ((arg_of (m := m_law_is_near) (cons_of (f := dVar 1) rfl (cons_of (f := dVar 6) rfl (cons_of (f := dVar 12) (g := dNil) rfl rfl)))).trans (hnq m hm)), fun _ => rfl⟩)
  obtain ⟨nr, hnr⟩ : ∃ nr, nr = wr.filter nq := ⟨_, rfl⟩
  rw [← hnr] at l10
  have s12 : gSet _ (.nm 10) (r66 ns n ps D sts lg cur (some (.d (.list (mv.map mvD65)))) (some (.d (li E))) (some (.d (.list (wr.map mvD65)))) none none) = .nx (r66 ns n ps D sts lg cur (some (.d (.list (mv.map mvD65)))) (some (.d (li E))) (some (.d (.list (wr.map mvD65)))) (some (.d (.list (nr.map mvD65)))) none) := set_of l10 (set_nm _ _ _)
  obtain ⟨ms, s13, okM, mne⟩ : ∃ ms : List Mv65, gIf (dAnd (dAsB (dTwo oGt (dArg bLen (dCons (dVar 10) dNil)) (dC (.int 0)))) (dAsB (dTwo oEq (dTwo oMod (dArg bInt (dCons (dTwo oIx (dVar 8) (dC (.int 0))) dNil)) (dC (.int 2))) (dC (.int 0))))) (gSet (dVar 10) (.nm 9)) gSkip (r66 ns n ps D sts lg cur (some (.d (.list (mv.map mvD65)))) (some (.d (li E))) (some (.d (.list (wr.map mvD65)))) (some (.d (.list (nr.map mvD65)))) none) = .nx (r66 ns n ps D sts lg cur (some (.d (.list (mv.map mvD65)))) (some (.d (li E))) (some (.d (.list (ms.map mvD65)))) (some (.d (.list (nr.map mvD65)))) none) ∧ (∀ m ∈ ms, InR n ps m ∧ stp ps cur m = none) ∧ 0 < ms.length := by
    have q1 : dAsB (dTwo oGt (dArg bLen (dCons (dVar 10) dNil)) (dC (.int 0))) (r66 ns n ps D sts lg cur (some (.d (.list (mv.map mvD65)))) (some (.d (li E))) (some (.d (.list (wr.map mvD65)))) (some (.d (.list (nr.map mvD65)))) none) = .ok (decide ((0 : Int) < nr.length)) := asB_of ((two_of ((arg_of (m := bLen) (cons_of (f := dVar 10) (g := dNil) rfl rfl)).trans (bLen_mv nr)) rfl).trans (oGt_int _ _))
    have q2 := asB_of ((two_of (u := oEq) (modV (v := 8) (ρ := r66 ns n ps D sts lg cur (some (.d (.list (mv.map mvD65)))) (some (.d (li E))) (some (.d (.list (wr.map mvD65)))) (some (.d (.list (nr.map mvD65)))) none) (L := E) (i := 0) (m := 2) rfl (by decide) (by omega) (by decide)) (g := dC (.int 0)) rfl).trans (oEq_int _ _))
    have q := and_of q1 q2
    cases hb : (decide ((0 : Int) < nr.length) && ((ixv E 0).fmod 2 == 0)) with
    | true =>
      rw [hb] at q
      rw [Bool.and_eq_true, decide_eq_true_iff] at hb
      exact ⟨nr, (if_t q).trans (set_of (d := .list (nr.map mvD65)) rfl (set_nm _ _ _)), fun m hm => okW m (by rw [hnr] at hm; exact (List.mem_filter.mp hm).1), by omega⟩
    | false =>
      rw [hb] at q
      exact ⟨wr, (if_f q).trans rfl, okW, List.length_pos_iff.mpr wne⟩
  have k0 := fmod_lo (ixv E 1) (b := (ms.length : Int)) (by omega)
  have k1 := fmod_hi (ixv E 1) (b := (ms.length : Int)) (by omega)
  have e14 : dTwo oMod (dArg bInt (dCons (dTwo oIx (dVar 8) (dC (.int 1))) dNil)) (dArg bLen (dCons (dVar 9) dNil)) (r66 ns n ps D sts lg cur (some (.d (.list (mv.map mvD65)))) (some (.d (li E))) (some (.d (.list (ms.map mvD65)))) (some (.d (.list (nr.map mvD65)))) none) = .ok (.int ((ixv E 1).fmod (ms.length : Int))) := (two_of ((arg_of (m := bInt) (cons_of (g := dNil) ((two_of (f := dVar 8) (g := dC (.int 1)) rfl rfl).trans (ix_li50 (by decide) (by omega))) rfl)).trans (bInt_int _)) ((arg_of (m := bLen) (cons_of (f := dVar 9) (g := dNil) rfl rfl)).trans (bLen_mv ms))).trans (oMod_int (by omega))
  generalize (ixv E 1).fmod (ms.length : Int) = k at k0 k1 e14
  have hk : k.toNat < ms.length := by omega
  obtain ⟨w, hw⟩ : ∃ w, w = ms[k.toNat] := ⟨_, rfl⟩
  obtain ⟨Rw, sw⟩ := okM w (by rw [hw]; exact List.getElem_mem hk)
  have ixw : oIx (.list (ms.map mvD65)) (.int k) = .ok (mvD65 w) := ix_lof mvD65 k0 (by rw [List.getElem?_eq_getElem hk, hw])
  have t14 : dTup (dCons (dTwo oIx (dVar 9) (dTwo oMod (dArg bInt (dCons (dTwo oIx (dVar 8) (dC (.int 1))) dNil)) (dArg bLen (dCons (dVar 9) dNil)))) dNil) (r66 ns n ps D sts lg cur (some (.d (.list (mv.map mvD65)))) (some (.d (li E))) (some (.d (.list (ms.map mvD65)))) (some (.d (.list (nr.map mvD65)))) none) = .ok (.tuple ([w].map mvD65)) := by
    rw [ev_tup, cons_of (g := dNil) ((two_of (u := oIx) (f := dVar 9) rfl e14).trans ixw) rfl, R.bind_ok]
    rfl
  have s14 : gSet (dTwo oAdd (dVar 5) (dTup (dCons (dTwo oIx (dVar 9) (dTwo oMod (dArg bInt (dCons (dTwo oIx (dVar 8) (dC (.int 1))) dNil)) (dArg bLen (dCons (dVar 9) dNil)))) dNil))) (.nm 11) (r66 ns n ps D sts lg cur (some (.d (.list (mv.map mvD65)))) (some (.d (li E))) (some (.d (.list (ms.map mvD65)))) (some (.d (.list (nr.map mvD65)))) none) = .nx (r66 ns n ps D sts lg cur (some (.d (.list (mv.map mvD65)))) (some (.d (li E))) (some (.d (.list (ms.map mvD65)))) (some (.d (.list (nr.map mvD65)))) (some (.d (.tuple ((lg ++ [w]).map mvD65))))) := set_of ((two_of (u := oAdd) (f := dVar 5) rfl t14).trans (add_mv (by rw [List.length_singleton]; omega))) (set_nm _ _ _)
  have c0 := fmod_lo (ixv E 2) (b := 4) (by decide)
  have c1 := fmod_hi (ixv E 2) (b := 4) (by decide)
  obtain ⟨cn, hcn⟩ : ∃ cn, cn = (ixv E 2).fmod 4 := ⟨_, rfl⟩
  rw [← hcn] at c0 c1
  have l15 := lc_of (enc := PyData.int) (fi := dRng1 (dCons (dTwo oMod (dArg bInt (dCons (dTwo oIx (dVar 8) (dC (.int 2))) dNil)) (dC (.int 4))) dNil)) (t := .nm 13) (ft := dYes) (fe := dTwo oIx (dVar 7) (dTwo oMod (dArg bInt (dCons (dTwo oIx (dVar 8) (dTwo oAdd (dC (.int 3)) (dVar 13))) dNil)) (dArg bLen (dCons (dVar 7) dNil)))) (vs := [13]) (ρ := r66 ns n ps D sts lg cur (some (.d (.list (mv.map mvD65)))) (some (.d (li E))) (some (.d (.list (ms.map mvD65)))) (some (.d (.list (nr.map mvD65)))) (some (.d (.tuple ((lg ++ [w]).map mvD65))))) (xs := rangeI 0 cn) (st := fun x => (r66 ns n ps D sts lg cur (some (.d (.list (mv.map mvD65)))) (some (.d (li E))) (some (.d (.list (ms.map mvD65)))) (some (.d (.list (nr.map mvD65)))) (some (.d (.tuple ((lg ++ [w]).map mvD65))))).set 13 (some (.d (.int x)))) (q := fun _ => true) (g := fun x => mvD65 ((mv[((ixv E (3 + x)).fmod (mv.length : Int)).toNat]?).getD (0, none, 0))) (by
      have a := cons_of (g := dNil) (modV (v := 8) (ρ := r66 ns n ps D sts lg cur (some (.d (.list (mv.map mvD65)))) (some (.d (li E))) (some (.d (.list (ms.map mvD65)))) (some (.d (.list (nr.map mvD65)))) (some (.d (.tuple ((lg ++ [w]).map mvD65))))) (L := E) (i := 2) (m := 4) rfl (by decide) (by omega) (by decide)) rfl
      show ((dCons _ dNil) _ >>= rngA1) = _
      rw [a, R.bind_ok, ← hcn, rngA1_ok (by omega) (by omega)]) (fun x hx => ⟨rfl, rfl, fun _ => by
      obtain ⟨x0, x1⟩ := mem_rangeI.mp hx
      have j0 := fmod_lo (ixv E (3 + x)) lm
      have j1 := fmod_hi (ixv E (3 + x)) lm
      have e := (two_of (u := oMod) ((arg_of (m := bInt) (ρ := (r66 ns n ps D sts lg cur (some (.d (.list (mv.map mvD65)))) (some (.d (li E))) (some (.d (.list (ms.map mvD65)))) (some (.d (.list (nr.map mvD65)))) (some (.d (.tuple ((lg ++ [w]).map mvD65))))).set 13 (some (.d (.int x)))) (cons_of (g := dNil) ((two_of (f := dVar 8) rfl ((two_of (u := oAdd) (f := dC (.int 3)) (g := dVar 13) rfl rfl).trans (oAdd_int _ _))).trans (ix_li50 (by omega) (by omega))) rfl)).trans (bInt_int _)) ((arg_of (m := bLen) (cons_of (f := dVar 7) (g := dNil) rfl rfl)).trans (bLen_mv mv))).trans (oMod_int (by omega))
      generalize (ixv E (3 + x)).fmod (mv.length : Int) = j at j0 j1 e
      have hj : j.toNat < mv.length := by omega
      exact (two_of (u := oIx) (f := dVar 7) rfl e).trans (ix_lof mvD65 j0 (by rw [List.getElem?_eq_getElem hj]; rfl))⟩)
  rw [List.filter_eq_self.mpr (fun _ _ => rfl)] at l15
  obtain ⟨rest, hrest, lrest⟩ : ∃ rest : List Mv65, (rangeI 0 cn).map (fun x => mvD65 ((mv[((ixv E (3 + x)).fmod (mv.length : Int)).toNat]?).getD (0, none, 0))) = rest.map mvD65 ∧ rest.length ≤ 4 := ⟨(rangeI 0 cn).map fun x => (mv[((ixv E (3 + x)).fmod (mv.length : Int)).toNat]?).getD (0, none, 0), by rw [List.map_map]; rfl, by rw [List.length_map, rng_len]; omega⟩
  rw [hrest] at l15
  have whole : lg ++ [w] ++ rest = lg ++ w :: rest := by rw [List.append_assoc]; rfl
  have s15 : gSet _ (.nm 11) (r66 ns n ps D sts lg cur (some (.d (.list (mv.map mvD65)))) (some (.d (li E))) (some (.d (.list (ms.map mvD65)))) (some (.d (.list (nr.map mvD65)))) (some (.d (.tuple ((lg ++ [w]).map mvD65))))) = .nx (r66 ns n ps D sts lg cur (some (.d (.list (mv.map mvD65)))) (some (.d (li E))) (some (.d (.list (ms.map mvD65)))) (some (.d (.list (nr.map mvD65)))) (some (.d (.tuple ((lg ++ w :: rest).map mvD65))))) := set_of ((two_of (u := oAdd) (f := dVar 11) rfl ((arg_of (m := bTuple) (cons_of (g := dNil) l15 rfl)).trans (show _ = PD.R.ok (PyData.tuple (rest.map mvD65)) from rfl))).trans ((add_mv (by rw [List.length_append, List.length_singleton]; omega)).trans (by rw [whole]))) (set_nm _ _ _)
  have ef := v_refused66 (cB := cB) (C := C) G (by omega) (by omega) (rest := rest) g.inr P Rw sw
  have b5 : dArg bLen (dCons (dVar 5) dNil) (r66 ns n ps D sts lg cur (some (.d (.list (mv.map mvD65)))) (some (.d (li E))) (some (.d (.list (ms.map mvD65)))) (some (.d (.list (nr.map mvD65)))) (some (.d (.tuple ((lg ++ w :: rest).map mvD65))))) = .ok (.int lg.length) := (arg_of (m := bLen) (cons_of (f := dVar 5) (g := dNil) rfl rfl)).trans bl
  have rf : dArg (m_law_refused_k66 cB C) (dCons (dVar 1) (dCons (dVar 11) dNil)) (r66 ns n ps D sts lg cur (some (.d (.list (mv.map mvD65)))) (some (.d (li E))) (some (.d (.list (ms.map mvD65)))) (some (.d (.list (nr.map mvD65)))) (some (.d (.tuple ((lg ++ w :: rest).map mvD65))))) = .ok (.int lg.length) := (arg_of (m := m_law_refused_k66 cB C) (cons_of (f := dVar 1) rfl (cons_of (f := dVar 11) (g := dNil) rfl rfl))).trans ef
  have mm : ((lg.length : Int) == (lg.length : Int)) = true := by rw [beq_iff_eq]
  have q16 := asB_of ((two_of (u := oNe) rf b5).trans (oNe_int _ _))
  rw [mm] at q16
  have ec : dCut (dVar 11) dNoP (dPart (dArg bLen (dCons (dVar 5) dNil))) (r66 ns n ps D sts lg cur (some (.d (.list (mv.map mvD65)))) (some (.d (li E))) (some (.d (.list (ms.map mvD65)))) (some (.d (.list (nr.map mvD65)))) (some (.d (.tuple ((lg ++ w :: rest).map mvD65))))) = .ok (.tuple (lg.map mvD65)) := by
    have := cut_log (lg ++ w :: rest) (c := (lg.length : Int)) (by omega) (by rw [List.length_append]; omega)
    rw [Int.toNat_natCast, List.take_left'] at this
    · rw [ev_cut, show dVar 11 _ = PD.R.ok (PyData.tuple ((lg ++ w :: rest).map mvD65)) from rfl, R.bind_ok, ev_noP, R.bind_ok, ev_part, b5, R.bind_ok]
      exact this
    · rfl
  have q17 := not_of (b := true) (asB_of ((arg_of (m := m_law_are_sets_k65) (cons_of ((arg_of (m := m_replay_k66 cB C) (cons_of (f := dVar 1) (a := gmD n ps) rfl (cons_of (g := dNil) ec rfl))).trans er) (cons_of (f := dVar 6) (a := tt cur) rfl (cons_of (f := dVar 2) (g := dNil) (a := .int (szO n ps)) rfl rfl)))).trans es))
  have r18 := (two_of (u := oEq) rf b5).trans (oEq_int _ _)
  rw [mm] at r18
  rw [seq_of s10, seq_of s11, seq_of s12, seq_of s13, seq_of s14, seq_of s15, seq_of (gIf_skip q16), seq_of (gIf_skip q17), ret_of r18]
  rfl
end LW
set_option Elab.async false
set_option linter.all false
set_option maxRecDepth 100000
set_option maxHeartbeats 4000000
namespace LW
open PySem PySem.Spec PyProof.Rows L2 PD
theorem all_mk {l : PySem.W.OpenLaw} {w : World} {K : PySem.W.Frag} {h : Heap} {mg : Str → Option Value} {fa : Addr} (X : K.In h) (G : h.Ns mainGlobals mg) (hfa : mg "law" = some (.ref fa))
    {f1 f2 f3 f4 f5 f6 f7 f8 f9 f10 f11 f12 f13 f14 f15 f16 f17 f18 f19 f20 f21 f22 f23 f24 f25 f26 f27 f28 f29 f30 f31 f32 f33 f34 f35 f36 f37 f38 f39 f40 f41 f42 f43 f44 : Addr} {od1 an1 od2 an2 od3 an3 od4 an4 od5 an5 od6 an6 od7 an7 od8 an8 od9 an9 od10 an10 od11 an11 od12 an12 od13 an13 od14 an14 od15 an15 od16 an16 od17 an17 od18 an18 od19 an19 od20 an20 od21 an21 od22 an22 od23 an23 od24 an24 od25 an25 od26 an26 od27 an27 od28 an28 od29 an29 od30 an30 od31 an31 od32 an32 od33 an33 od34 an34 od35 an35 od36 an36 od37 an37 od38 an38 od39 an39 od40 an40 od41 an41 od42 an42 od43 an43 od44 an44 : Option Addr} {sl1 sl2 sl3 sl4 sl5 sl6 sl7 sl8 sl9 sl10 sl11 sl12 sl13 sl14 sl15 sl16 sl17 sl18 sl19 sl20 sl21 sl22 sl23 sl24 sl25 sl26 sl27 sl28 sl29 sl30 sl31 sl32 sl33 sl34 sl35 sl36 sl37 sl38 sl39 sl40 sl41 sl42 sl43 sl44 : Array (Option Value)} {oc1 kV1 dc1 pm1 ct1 cd1 oc2 kV2 dc2 pm2 ct2 cd2 oc3 kV3 dc3 pm3 ct3 cd3 oc4 kV4 dc4 pm4 ct4 cd4 oc5 kV5 dc5 pm5 ct5 cd5 oc6 kV6 dc6 pm6 ct6 cd6 oc7 kV7 dc7 pm7 ct7 cd7 oc8 kV8 dc8 pm8 ct8 cd8 oc9 kV9 dc9 pm9 ct9 cd9 oc10 kV10 dc10 pm10 ct10 cd10 oc11 kV11 dc11 pm11 ct11 cd11 oc12 kV12 dc12 pm12 ct12 cd12 oc13 kV13 dc13 pm13 ct13 cd13 oc14 kV14 dc14 pm14 ct14 cd14 oc15 kV15 dc15 pm15 ct15 cd15 oc16 kV16 dc16 pm16 ct16 cd16 oc17 kV17 dc17 pm17 ct17 cd17 oc18 kV18 dc18 pm18 ct18 cd18 oc19 kV19 dc19 pm19 ct19 cd19 oc20 kV20 dc20 pm20 ct20 cd20 oc21 kV21 dc21 pm21 ct21 cd21 oc22 kV22 dc22 pm22 ct22 cd22 oc23 kV23 dc23 pm23 ct23 cd23 oc24 kV24 dc24 pm24 ct24 cd24 oc25 kV25 dc25 pm25 ct25 cd25 oc26 kV26 dc26 pm26 ct26 cd26 oc27 kV27 dc27 pm27 ct27 cd27 oc28 kV28 dc28 pm28 ct28 cd28 oc29 kV29 dc29 pm29 ct29 cd29 oc30 kV30 dc30 pm30 ct30 cd30 oc31 kV31 dc31 pm31 ct31 cd31 oc32 kV32 dc32 pm32 ct32 cd32 oc33 kV33 dc33 pm33 ct33 cd33 oc34 kV34 dc34 pm34 ct34 cd34 oc35 kV35 dc35 pm35 ct35 cd35 oc36 kV36 dc36 pm36 ct36 cd36 oc37 kV37 dc37 pm37 ct37 cd37 oc38 kV38 dc38 pm38 ct38 cd38 oc39 kV39 dc39 pm39 ct39 cd39 oc40 kV40 dc40 pm40 ct40 cd40 oc41 kV41 dc41 pm41 ct41 cd41 oc42 kV42 dc42 pm42 ct42 cd42 oc43 kV43 dc43 pm43 ct43 cd43 oc44 kV44 dc44 pm44 ct44 cd44 : Value} {fi_BadMove : Addr} {oci_BadMove dci_BadMove pmi_BadMove cdi_BadMove cti_BadMove : Value} {odi_BadMove ani_BadMove : Option Addr} {sli_BadMove : Array (Option Value)} {c_BadLine c_BadMove c_BadThing c_Moment c_NotSmooth c_TakersrestError : Addr} {q : Program} (TT : Tabs q K h)
    (oa_Moment : PySem.W.nsIn K mainGlobals "Moment" = some (some (.ref c_Moment)))
    (og_Moment : PySem.W.plainGet K c_Moment Str.empty = true) (oh_Moment : PySem.W.hasDictIn K c_Moment = true) (oo_Moment : PySem.W.plainOver K c_Moment = true) (os_Moment : PySem.W.findIn K (.ref c_Moment) "__setattr__" = some (some (.builtin "object.__setattr__"))) (om_Moment : PySem.W.makesIn K c_Moment = true) (ok_Moment : PySem.W.keepIn K (.ref c_Moment) = true)
    (on0_Moment : PySem.W.findIn K (.ref c_Moment) "costs" = some none)
    (on1_Moment : PySem.W.findIn K (.ref c_Moment) "free" = some none)
    (on2_Moment : PySem.W.findIn K (.ref c_Moment) "sets" = some none)
    (on3_Moment : PySem.W.findIn K (.ref c_Moment) "counts" = some none)
    (a1 : PySem.W.nsIn K mainGlobals "_law_draws" = some (some (.ref f1))) (l1 : K.lookup f1 = some ⟨oc1, od1, .func (PySem.W.fnOf "_law_draws" "_law_draws" (defArgs s_law_draws) (defBody s_law_draws) (defScope s_law_draws) .none kV1 dc1 pm1 an1 cd1 ct1), sl1⟩) (c1 : PySem.W.codeIn K cd1 "_law_draws" = true) (k1 : PySem.W.keepIn K (.ref f1) = true)
    (a2 : PySem.W.nsIn K mainGlobals "_law_cell" = some (some (.ref f2))) (l2 : K.lookup f2 = some ⟨oc2, od2, .func (PySem.W.fnOf "_law_cell" "_law_cell" (defArgs s_law_cell) (defBody s_law_cell) (defScope s_law_cell) .none kV2 dc2 pm2 an2 cd2 ct2), sl2⟩) (c2 : PySem.W.codeIn K cd2 "_law_cell" = true) (k2 : PySem.W.keepIn K (.ref f2) = true)
    (a3 : PySem.W.nsIn K mainGlobals "_law_costs" = some (some (.ref f3))) (l3 : K.lookup f3 = some ⟨oc3, od3, .func (PySem.W.fnOf "_law_costs" "_law_costs" (defArgs s_law_costs) (defBody s_law_costs) (defScope s_law_costs) .none kV3 dc3 pm3 an3 cd3 ct3), sl3⟩) (c3 : PySem.W.codeIn K cd3 "_law_costs" = true) (k3 : PySem.W.keepIn K (.ref f3) = true)
    (a4 : PySem.W.nsIn K mainGlobals "_law_parts_of" = some (some (.ref f4))) (l4 : K.lookup f4 = some ⟨oc4, od4, .func (PySem.W.fnOf "_law_parts_of" "_law_parts_of" (defArgs s_law_parts_of) (defBody s_law_parts_of) (defScope s_law_parts_of) .none kV4 dc4 pm4 an4 cd4 ct4), sl4⟩) (c4 : PySem.W.codeIn K cd4 "_law_parts_of" = true) (k4 : PySem.W.keepIn K (.ref f4) = true)
    (a5 : PySem.W.nsIn K mainGlobals "_law_count" = some (some (.ref f5))) (l5 : K.lookup f5 = some ⟨oc5, od5, .func (PySem.W.fnOf "_law_count" "_law_count" (defArgs s_law_count) (defBody s_law_count) (defScope s_law_count) .none kV5 dc5 pm5 an5 cd5 ct5), sl5⟩) (c5 : PySem.W.codeIn K cd5 "_law_count" = true) (k5 : PySem.W.keepIn K (.ref f5) = true)
    (a6 : PySem.W.nsIn K mainGlobals "_law_bounded_lots" = some (some (.ref f6))) (l6 : K.lookup f6 = some ⟨oc6, od6, .func (PySem.W.fnOf "_law_bounded_lots" "_law_bounded_lots" (defArgs s_law_bounded_lots) (defBody s_law_bounded_lots) (defScope s_law_bounded_lots) .none kV6 dc6 pm6 an6 cd6 ct6), sl6⟩) (c6 : PySem.W.codeIn K cd6 "_law_bounded_lots" = true) (k6 : PySem.W.keepIn K (.ref f6) = true)
    (a7 : PySem.W.nsIn K mainGlobals "_law_is_forest" = some (some (.ref f7))) (l7 : K.lookup f7 = some ⟨oc7, od7, .func (PySem.W.fnOf "_law_is_forest" "_law_is_forest" (defArgs s_law_is_forest) (defBody s_law_is_forest) (defScope s_law_is_forest) .none kV7 dc7 pm7 an7 cd7 ct7), sl7⟩) (c7 : PySem.W.codeIn K cd7 "_law_is_forest" = true) (k7 : PySem.W.keepIn K (.ref f7) = true)
    (a8 : PySem.W.nsIn K mainGlobals "_law_forest_lots" = some (some (.ref f8))) (l8 : K.lookup f8 = some ⟨oc8, od8, .func (PySem.W.fnOf "_law_forest_lots" "_law_forest_lots" (defArgs s_law_forest_lots) (defBody s_law_forest_lots) (defScope s_law_forest_lots) .none kV8 dc8 pm8 an8 cd8 ct8), sl8⟩) (c8 : PySem.W.codeIn K cd8 "_law_forest_lots" = true) (k8 : PySem.W.keepIn K (.ref f8) = true)
    (a9 : PySem.W.nsIn K mainGlobals "_law_rest_of" = some (some (.ref f9))) (l9 : K.lookup f9 = some ⟨oc9, od9, .func (PySem.W.fnOf "_law_rest_of" "_law_rest_of" (defArgs s_law_rest_of) (defBody s_law_rest_of) (defScope s_law_rest_of) .none kV9 dc9 pm9 an9 cd9 ct9), sl9⟩) (c9 : PySem.W.codeIn K cd9 "_law_rest_of" = true) (k9 : PySem.W.keepIn K (.ref f9) = true)
    (a10 : PySem.W.nsIn K mainGlobals "_law_smooth_lots" = some (some (.ref f10))) (l10 : K.lookup f10 = some ⟨oc10, od10, .func (PySem.W.fnOf "_law_smooth_lots" "_law_smooth_lots" (defArgs s_law_smooth_lots) (defBody s_law_smooth_lots) (defScope s_law_smooth_lots) .none kV10 dc10 pm10 an10 cd10 ct10), sl10⟩) (c10 : PySem.W.codeIn K cd10 "_law_smooth_lots" = true) (k10 : PySem.W.keepIn K (.ref f10) = true)
    (a11 : PySem.W.nsIn K mainGlobals "_law_within" = some (some (.ref f11))) (l11 : K.lookup f11 = some ⟨oc11, od11, .func (PySem.W.fnOf "_law_within" "_law_within" (defArgs s_law_within) (defBody s_law_within) (defScope s_law_within) .none kV11 dc11 pm11 an11 cd11 ct11), sl11⟩) (c11 : PySem.W.codeIn K cd11 "_law_within" = true) (k11 : PySem.W.keepIn K (.ref f11) = true)
    (a12 : PySem.W.nsIn K mainGlobals "_law_antichain" = some (some (.ref f12))) (l12 : K.lookup f12 = some ⟨oc12, od12, .func (PySem.W.fnOf "_law_antichain" "_law_antichain" (defArgs s_law_antichain) (defBody s_law_antichain) (defScope s_law_antichain) .none kV12 dc12 pm12 an12 cd12 ct12), sl12⟩) (c12 : PySem.W.codeIn K cd12 "_law_antichain" = true) (k12 : PySem.W.keepIn K (.ref f12) = true)
    (a13 : PySem.W.nsIn K mainGlobals "_law_any_lots" = some (some (.ref f13))) (l13 : K.lookup f13 = some ⟨oc13, od13, .func (PySem.W.fnOf "_law_any_lots" "_law_any_lots" (defArgs s_law_any_lots) (defBody s_law_any_lots) (defScope s_law_any_lots) .none kV13 dc13 pm13 an13 cd13 ct13), sl13⟩) (c13 : PySem.W.codeIn K cd13 "_law_any_lots" = true) (k13 : PySem.W.keepIn K (.ref f13) = true)
    (a14 : PySem.W.nsIn K mainGlobals "_law_lots" = some (some (.ref f14))) (l14 : K.lookup f14 = some ⟨oc14, od14, .func (PySem.W.fnOf "_law_lots" "_law_lots" (defArgs s_law_lots) (defBody s_law_lots) (defScope s_law_lots) .none kV14 dc14 pm14 an14 cd14 ct14), sl14⟩) (c14 : PySem.W.codeIn K cd14 "_law_lots" = true) (k14 : PySem.W.keepIn K (.ref f14) = true)
    (a15 : PySem.W.nsIn K mainGlobals "_law_game" = some (some (.ref f15))) (l15 : K.lookup f15 = some ⟨oc15, od15, .func (PySem.W.fnOf "_law_game" "_law_game" (defArgs s_law_game) (defBody s_law_game) (defScope s_law_game) .none kV15 dc15 pm15 an15 cd15 ct15), sl15⟩) (c15 : PySem.W.codeIn K cd15 "_law_game" = true) (k15 : PySem.W.keepIn K (.ref f15) = true)
    (a16 : PySem.W.nsIn K mainGlobals "_law_size" = some (some (.ref f16))) (l16 : K.lookup f16 = some ⟨oc16, od16, .func (PySem.W.fnOf "_law_size" "_law_size" (defArgs s_law_size) (defBody s_law_size) (defScope s_law_size) .none kV16 dc16 pm16 an16 cd16 ct16), sl16⟩) (c16 : PySem.W.codeIn K cd16 "_law_size" = true) (k16 : PySem.W.keepIn K (.ref f16) = true)
    (a17 : PySem.W.nsIn K mainGlobals "_law_is_free" = some (some (.ref f17))) (l17 : K.lookup f17 = some ⟨oc17, od17, .func (PySem.W.fnOf "_law_is_free" "_law_is_free" (defArgs s_law_is_free) (defBody s_law_is_free) (defScope s_law_is_free) .none kV17 dc17 pm17 an17 cd17 ct17), sl17⟩) (c17 : PySem.W.codeIn K cd17 "_law_is_free" = true) (k17 : PySem.W.keepIn K (.ref f17) = true)
    (a18 : PySem.W.nsIn K mainGlobals "_law_cost" = some (some (.ref f18))) (l18 : K.lookup f18 = some ⟨oc18, od18, .func (PySem.W.fnOf "_law_cost" "_law_cost" (defArgs s_law_cost) (defBody s_law_cost) (defScope s_law_cost) .none kV18 dc18 pm18 an18 cd18 ct18), sl18⟩) (c18 : PySem.W.codeIn K cd18 "_law_cost" = true) (k18 : PySem.W.keepIn K (.ref f18) = true)
    (a19 : PySem.W.nsIn K mainGlobals "_law_exchanged" = some (some (.ref f19))) (l19 : K.lookup f19 = some ⟨oc19, od19, .func (PySem.W.fnOf "_law_exchanged" "_law_exchanged" (defArgs s_law_exchanged) (defBody s_law_exchanged) (defScope s_law_exchanged) .none kV19 dc19 pm19 an19 cd19 ct19), sl19⟩) (c19 : PySem.W.codeIn K cd19 "_law_exchanged" = true) (k19 : PySem.W.keepIn K (.ref f19) = true)
    (a20 : PySem.W.nsIn K mainGlobals "_law_step" = some (some (.ref f20))) (l20 : K.lookup f20 = some ⟨oc20, od20, .func (PySem.W.fnOf "_law_step" "_law_step" (defArgs s_law_step) (defBody s_law_step) (defScope s_law_step) .none kV20 dc20 pm20 an20 cd20 ct20), sl20⟩) (c20 : PySem.W.codeIn K cd20 "_law_step" = true) (k20 : PySem.W.keepIn K (.ref f20) = true)
    (a21 : PySem.W.nsIn K mainGlobals "_law_all_moves" = some (some (.ref f21))) (l21 : K.lookup f21 = some ⟨oc21, od21, .func (PySem.W.fnOf "_law_all_moves" "_law_all_moves" (defArgs s_law_all_moves) (defBody s_law_all_moves) (defScope s_law_all_moves) .none kV21 dc21 pm21 an21 cd21 ct21), sl21⟩) (c21 : PySem.W.codeIn K cd21 "_law_all_moves" = true) (k21 : PySem.W.keepIn K (.ref f21) = true)
    (a22 : PySem.W.nsIn K mainGlobals "_law_grown" = some (some (.ref f22))) (l22 : K.lookup f22 = some ⟨oc22, od22, .func (PySem.W.fnOf "_law_grown" "_law_grown" (defArgs s_law_grown) (defBody s_law_grown) (defScope s_law_grown) .none kV22 dc22 pm22 an22 cd22 ct22), sl22⟩) (c22 : PySem.W.codeIn K cd22 "_law_grown" = true) (k22 : PySem.W.keepIn K (.ref f22) = true)
    (a23 : PySem.W.nsIn K mainGlobals "_law_is_integer" = some (some (.ref f23))) (l23 : K.lookup f23 = some ⟨oc23, od23, .func (PySem.W.fnOf "_law_is_integer" "_law_is_integer" (defArgs s_law_is_integer) (defBody s_law_is_integer) (defScope s_law_is_integer) .none kV23 dc23 pm23 an23 cd23 ct23), sl23⟩) (c23 : PySem.W.codeIn K cd23 "_law_is_integer" = true) (k23 : PySem.W.keepIn K (.ref f23) = true)
    (a24 : PySem.W.nsIn K mainGlobals "_law_is_set" = some (some (.ref f24))) (l24 : K.lookup f24 = some ⟨oc24, od24, .func (PySem.W.fnOf "_law_is_set" "_law_is_set" (defArgs s_law_is_set) (defBody s_law_is_set) (defScope s_law_is_set) .none kV24 dc24 pm24 an24 cd24 ct24), sl24⟩) (c24 : PySem.W.codeIn K cd24 "_law_is_set" = true) (k24 : PySem.W.keepIn K (.ref f24) = true)
    (a25 : PySem.W.nsIn K mainGlobals "_law_are_sets" = some (some (.ref f25))) (l25 : K.lookup f25 = some ⟨oc25, od25, .func (PySem.W.fnOf "_law_are_sets" "_law_are_sets" (defArgs s_law_are_sets) (defBody s_law_are_sets) (defScope s_law_are_sets) .none kV25 dc25 pm25 an25 cd25 ct25), sl25⟩) (c25 : PySem.W.codeIn K cd25 "_law_are_sets" = true) (k25 : PySem.W.keepIn K (.ref f25) = true)
    (a26 : PySem.W.nsIn K mainGlobals "count_sets" = some (some (.ref f26))) (l26 : K.lookup f26 = some ⟨oc26, od26, .func (PySem.W.fnOf "count_sets" "count_sets" (defArgs s_count_sets) (defBody s_count_sets) (defScope s_count_sets) .none kV26 dc26 pm26 an26 cd26 ct26), sl26⟩) (c26 : PySem.W.codeIn K cd26 "count_sets" = true) (k26 : PySem.W.keepIn K (.ref f26) = true)
    (a27 : PySem.W.nsIn K mainGlobals "leave_out" = some (some (.ref f27))) (l27 : K.lookup f27 = some ⟨oc27, od27, .func (PySem.W.fnOf "leave_out" "leave_out" (defArgs s_leave_out) (defBody s_leave_out) (defScope s_leave_out) .none kV27 dc27 pm27 an27 cd27 ct27), sl27⟩) (c27 : PySem.W.codeIn K cd27 "leave_out" = true) (k27 : PySem.W.keepIn K (.ref f27) = true)
    (a28 : PySem.W.nsIn K mainGlobals "fewer_by_one" = some (some (.ref f28))) (l28 : K.lookup f28 = some ⟨oc28, od28, .func (PySem.W.fnOf "fewer_by_one" "fewer_by_one" (defArgs s_fewer_by_one) (defBody s_fewer_by_one) (defScope s_fewer_by_one) .none kV28 dc28 pm28 an28 cd28 ct28), sl28⟩) (c28 : PySem.W.codeIn K cd28 "fewer_by_one" = true) (k28 : PySem.W.keepIn K (.ref f28) = true)
    (a29 : PySem.W.nsIn K mainGlobals "free_sets" = some (some (.ref f29))) (l29 : K.lookup f29 = some ⟨oc29, od29, .func (PySem.W.fnOf "free_sets" "free_sets" (defArgs s_free_sets) (defBody s_free_sets) (defScope s_free_sets) .none kV29 dc29 pm29 an29 cd29 ct29), sl29⟩) (c29 : PySem.W.codeIn K cd29 "free_sets" = true) (k29 : PySem.W.keepIn K (.ref f29) = true)
    (a30 : PySem.W.findIn K (.ref c_Moment) "__init__" = some (some (.ref f30))) (l30 : K.lookup f30 = some ⟨oc30, od30, .func (PySem.W.fnOf "__init__" "Moment.__init__" (defArgs s_Moment___init__) (defBody s_Moment___init__) (defScope s_Moment___init__) .none kV30 dc30 pm30 an30 cd30 ct30), sl30⟩) (c30 : PySem.W.codeIn K cd30 "Moment.__init__" = true) (k30 : PySem.W.keepIn K (.ref f30) = true) (i30 : PySem.W.isFn K (.ref f30) = true)
    (a31 : PySem.W.nsIn K mainGlobals "_empty_moment" = some (some (.ref f31))) (l31 : K.lookup f31 = some ⟨oc31, od31, .func (PySem.W.fnOf "_empty_moment" "_empty_moment" (defArgs s_empty_moment) (defBody s_empty_moment) (defScope s_empty_moment) .none kV31 dc31 pm31 an31 cd31 ct31), sl31⟩) (c31 : PySem.W.codeIn K cd31 "_empty_moment" = true) (k31 : PySem.W.keepIn K (.ref f31) = true)
    (a32 : PySem.W.nsIn K mainGlobals "put_in" = some (some (.ref f32))) (l32 : K.lookup f32 = some ⟨oc32, od32, .func (PySem.W.fnOf "put_in" "put_in" (defArgs s_put_in) (defBody s_put_in) (defScope s_put_in) .none kV32 dc32 pm32 an32 cd32 ct32), sl32⟩) (c32 : PySem.W.codeIn K cd32 "put_in" = true) (k32 : PySem.W.keepIn K (.ref f32) = true)
    (a33 : PySem.W.findIn K (.ref c_Moment) "make" = some (some (.ref f33))) (l33 : K.lookup f33 = some ⟨oc33, od33, .func (PySem.W.fnOf "make" "Moment.make" (defArgs s_Moment_make) (defBody s_Moment_make) (defScope s_Moment_make) .none kV33 dc33 pm33 an33 cd33 ct33), sl33⟩) (c33 : PySem.W.codeIn K cd33 "Moment.make" = true) (k33 : PySem.W.keepIn K (.ref f33) = true) (i33 : PySem.W.isFn K (.ref f33) = true)
    (a34 : PySem.W.findIn K (.ref c_Moment) "can_add" = some (some (.ref f34))) (l34 : K.lookup f34 = some ⟨oc34, od34, .func (PySem.W.fnOf "can_add" "Moment.can_add" (defArgs s_Moment_can_add) (defBody s_Moment_can_add) (defScope s_Moment_can_add) .none kV34 dc34 pm34 an34 cd34 ct34), sl34⟩) (c34 : PySem.W.codeIn K cd34 "Moment.can_add" = true) (k34 : PySem.W.keepIn K (.ref f34) = true) (i34 : PySem.W.isFn K (.ref f34) = true)
    (a35 : PySem.W.nsIn K mainGlobals "cost_at" = some (some (.ref f35))) (l35 : K.lookup f35 = some ⟨oc35, od35, .func (PySem.W.fnOf "cost_at" "cost_at" (defArgs s_cost_at) (defBody s_cost_at) (defScope s_cost_at) .none kV35 dc35 pm35 an35 cd35 ct35), sl35⟩) (c35 : PySem.W.codeIn K cd35 "cost_at" = true) (k35 : PySem.W.keepIn K (.ref f35) = true)
    (a36 : PySem.W.findIn K (.ref c_Moment) "cost_next" = some (some (.ref f36))) (l36 : K.lookup f36 = some ⟨oc36, od36, .func (PySem.W.fnOf "cost_next" "Moment.cost_next" (defArgs s_Moment_cost_next) (defBody s_Moment_cost_next) (defScope s_Moment_cost_next) .none kV36 dc36 pm36 an36 cd36 ct36), sl36⟩) (c36 : PySem.W.codeIn K cd36 "Moment.cost_next" = true) (k36 : PySem.W.keepIn K (.ref f36) = true) (i36 : PySem.W.isFn K (.ref f36) = true)
    (a37 : PySem.W.findIn K (.ref c_Moment) "cost_now" = some (some (.ref f37))) (l37 : K.lookup f37 = some ⟨oc37, od37, .func (PySem.W.fnOf "cost_now" "Moment.cost_now" (defArgs s_Moment_cost_now) (defBody s_Moment_cost_now) (defScope s_Moment_cost_now) .none kV37 dc37 pm37 an37 cd37 ct37), sl37⟩) (c37 : PySem.W.codeIn K cd37 "Moment.cost_now" = true) (k37 : PySem.W.keepIn K (.ref f37) = true) (i37 : PySem.W.isFn K (.ref f37) = true)
    (a38 : PySem.W.nsIn K mainGlobals "exchange" = some (some (.ref f38))) (l38 : K.lookup f38 = some ⟨oc38, od38, .func (PySem.W.fnOf "exchange" "exchange" (defArgs s_exchange) (defBody s_exchange) (defScope s_exchange) .none kV38 dc38 pm38 an38 cd38 ct38), sl38⟩) (c38 : PySem.W.codeIn K cd38 "exchange" = true) (k38 : PySem.W.keepIn K (.ref f38) = true)
    (a39 : PySem.W.findIn K (.ref c_Moment) "can_exchange" = some (some (.ref f39))) (l39 : K.lookup f39 = some ⟨oc39, od39, .func (PySem.W.fnOf "can_exchange" "Moment.can_exchange" (defArgs s_Moment_can_exchange) (defBody s_Moment_can_exchange) (defScope s_Moment_can_exchange) .none kV39 dc39 pm39 an39 cd39 ct39), sl39⟩) (c39 : PySem.W.codeIn K cd39 "Moment.can_exchange" = true) (k39 : PySem.W.keepIn K (.ref f39) = true) (i39 : PySem.W.isFn K (.ref f39) = true)
    (a40 : PySem.W.findIn K (.ref c_Moment) "is_allowed" = some (some (.ref f40))) (l40 : K.lookup f40 = some ⟨oc40, od40, .func (PySem.W.fnOf "is_allowed" "Moment.is_allowed" (defArgs s_Moment_is_allowed) (defBody s_Moment_is_allowed) (defScope s_Moment_is_allowed) .none kV40 dc40 pm40 an40 cd40 ct40), sl40⟩) (c40 : PySem.W.codeIn K cd40 "Moment.is_allowed" = true) (k40 : PySem.W.keepIn K (.ref f40) = true) (i40 : PySem.W.isFn K (.ref f40) = true)
    (a41 : PySem.W.nsIn K mainGlobals "replay" = some (some (.ref f41))) (l41 : K.lookup f41 = some ⟨oc41, od41, .func (PySem.W.fnOf "replay" "replay" (defArgs s_replay) (defBody s_replay) (defScope s_replay) .none kV41 dc41 pm41 an41 cd41 ct41), sl41⟩) (c41 : PySem.W.codeIn K cd41 "replay" = true) (k41 : PySem.W.keepIn K (.ref f41) = true)
    (a42 : PySem.W.nsIn K mainGlobals "_law_refused" = some (some (.ref f42))) (l42 : K.lookup f42 = some ⟨oc42, od42, .func (PySem.W.fnOf "_law_refused" "_law_refused" (defArgs s_law_refused) (defBody s_law_refused) (defScope s_law_refused) .none kV42 dc42 pm42 an42 cd42 ct42), sl42⟩) (c42 : PySem.W.codeIn K cd42 "_law_refused" = true) (k42 : PySem.W.keepIn K (.ref f42) = true)
    (a43 : PySem.W.nsIn K mainGlobals "_law_is_near" = some (some (.ref f43))) (l43 : K.lookup f43 = some ⟨oc43, od43, .func (PySem.W.fnOf "_law_is_near" "_law_is_near" (defArgs s_law_is_near) (defBody s_law_is_near) (defScope s_law_is_near) .none kV43 dc43 pm43 an43 cd43 ct43), sl43⟩) (c43 : PySem.W.codeIn K cd43 "_law_is_near" = true) (k43 : PySem.W.keepIn K (.ref f43) = true)
    (a44 : PySem.W.nsIn K mainGlobals "law" = some (some (.ref f44))) (l44 : K.lookup f44 = some ⟨oc44, od44, .func (PySem.W.fnOf "law" "law" (defArgs s_law) (defBody s_law) (defScope s_law) .none kV44 dc44 pm44 an44 cd44 ct44), sl44⟩) (c44 : PySem.W.codeIn K cd44 "law" = true) (k44 : PySem.W.keepIn K (.ref f44) = true)
    (ga_BadLine : PySem.W.nsIn K mainGlobals "BadLine" = some (some (.ref c_BadLine)))
    (ga_BadMove : PySem.W.nsIn K mainGlobals "BadMove" = some (some (.ref c_BadMove)))
    (ga_BadThing : PySem.W.nsIn K mainGlobals "BadThing" = some (some (.ref c_BadThing)))
    (ga_NotSmooth : PySem.W.nsIn K mainGlobals "NotSmooth" = some (some (.ref c_NotSmooth)))
    (ga_TakersrestError : PySem.W.nsIn K mainGlobals "TakersrestError" = some (some (.ref c_TakersrestError)))
    (T_BadMove : ErrF K c_BadMove c_TakersrestError fi_BadMove "TakersrestError" "position") (lf_BadMove : K.lookup fi_BadMove = some ⟨oci_BadMove, odi_BadMove, .func (PySem.W.fnOf "__init__" "BadMove.__init__" (defArgs (clsStm (topS 4) 0)) (defBody (clsStm (topS 4) 0)) (defScope (clsStm (topS 4) 0)) .none .none dci_BadMove pmi_BadMove ani_BadMove cdi_BadMove cti_BadMove), sli_BadMove⟩) (ci_BadMove : PySem.W.codeIn K cdi_BadMove "BadMove.__init__" = true)
    (G_BadMove_position : ErrG K c_BadMove "position")
    (E_BadMove : ExcC K c_BadMove)
    (x_BadMove : PySem.W.exmOne K (.ref c_BadMove) (.ref c_TakersrestError) = some true)
    (i_BadMove_BadLine : PySem.W.kitOne K (.ref c_BadMove) (.ref c_BadLine) = some false)
    (i_BadMove_BadMove : PySem.W.kitOne K (.ref c_BadMove) (.ref c_BadMove) = some true)
    (i_BadMove_BadThing : PySem.W.kitOne K (.ref c_BadMove) (.ref c_BadThing) = some false)
    (i_BadMove_NotSmooth : PySem.W.kitOne K (.ref c_BadMove) (.ref c_NotSmooth) = some false)
    (i_BadMove_ValueError : PySem.W.kitOne K (.ref c_BadMove) (.type "ValueError") = some true)
    (zz_ValueError : PySem.W.nsIn K mainGlobals "ValueError" = some none)
    (z_len : PySem.W.nsIn K mainGlobals "len" = some none)
    (z_int : PySem.W.nsIn K mainGlobals "int" = some none)
    (z_bool : PySem.W.nsIn K mainGlobals "bool" = some none)
    (z_abs : PySem.W.nsIn K mainGlobals "abs" = some none)
    (z_tuple : PySem.W.nsIn K mainGlobals "tuple" = some none)
    (z_list : PySem.W.nsIn K mainGlobals "list" = some none)
    (z_sum : PySem.W.nsIn K mainGlobals "sum" = some none)
    (z_max : PySem.W.nsIn K mainGlobals "max" = some none)
    (z_min : PySem.W.nsIn K mainGlobals "min" = some none)
    (z_any : PySem.W.nsIn K mainGlobals "any" = some none)
    (z_all : PySem.W.nsIn K mainGlobals "all" = some none)
    (z_range : PySem.W.nsIn K mainGlobals "range" = some none)
    (z_isinstance : PySem.W.nsIn K mainGlobals "isinstance" = some none)
    (z_sorted : PySem.W.nsIn K mainGlobals "sorted" = some none)
    (z_enumerate : PySem.W.nsIn K mainGlobals "enumerate" = some none)
    (z_zip : PySem.W.nsIn K mainGlobals "zip" = some none)
    (z_set : PySem.W.nsIn K mainGlobals "set" = some none) :
    LamX.LawAtS l w K (L2N.CX l.prog w) 9 63 "script" mg fa h := by
  have e := hfa.symm.trans (PySem.W.mg_of X G a44)
  cases e
  have B : Bi mg := ⟨PySem.W.mg_none_of X G z_len, PySem.W.mg_none_of X G z_int, PySem.W.mg_none_of X G z_bool, PySem.W.mg_none_of X G z_abs, PySem.W.mg_none_of X G z_tuple, PySem.W.mg_none_of X G z_list, PySem.W.mg_none_of X G z_sum, PySem.W.mg_none_of X G z_max, PySem.W.mg_none_of X G z_min, PySem.W.mg_none_of X G z_any, PySem.W.mg_none_of X G z_all, PySem.W.mg_none_of X G z_range, PySem.W.mg_none_of X G z_isinstance, PySem.W.mg_none_of X G z_sorted, PySem.W.mg_none_of X G z_enumerate, PySem.W.mg_none_of X G z_zip, PySem.W.mg_none_of X G z_set⟩
  have F1 := fun_mk (st := s_law_draws) l1 c1 k1
  have b1 := F1.binds (ps := ["cell", "count"]) fun _ _ _ _ _ _ us hl => match us, hl with | [_, _], _ => rfl
  have F2 := fun_mk (st := s_law_cell) l2 c2 k2
  have b2 := F2.binds (ps := ["script", "k"]) fun _ _ _ _ _ _ us hl => match us, hl with | [_, _], _ => rfl
  have F3 := fun_mk (st := s_law_costs) l3 c3 k3
  have b3 := F3.binds (ps := ["cell", "size", "room", "great"]) fun _ _ _ _ _ _ us hl => match us, hl with | [_, _, _, _], _ => rfl
  have F4 := fun_mk (st := s_law_parts_of) l4 c4 k4
  have b4 := F4.binds (ps := ["size"]) fun _ _ _ _ _ _ us hl => match us, hl with | [_], _ => rfl
  have F5 := fun_mk (st := s_law_count) l5 c5 k5
  have b5 := F5.binds (ps := ["row", "classes", "c"]) fun _ _ _ _ _ _ us hl => match us, hl with | [_, _, _], _ => rfl
  have F6 := fun_mk (st := s_law_bounded_lots) l6 c6 k6
  have b6 := F6.binds (ps := ["draws", "size"]) fun _ _ _ _ _ _ us hl => match us, hl with | [_, _], _ => rfl
  have F7 := fun_mk (st := s_law_is_forest) l7 c7 k7
  have b7 := F7.binds (ps := ["row", "roads", "points"]) fun _ _ _ _ _ _ us hl => match us, hl with | [_, _, _], _ => rfl
  have F8 := fun_mk (st := s_law_forest_lots) l8 c8 k8
  have b8 := F8.binds (ps := ["draws", "size"]) fun _ _ _ _ _ _ us hl => match us, hl with | [_, _], _ => rfl
  have F9 := fun_mk (st := s_law_rest_of) l9 c9 k9
  have b9 := F9.binds (ps := ["lot", "size"]) fun _ _ _ _ _ _ us hl => match us, hl with | [_, _], _ => rfl
  have F10 := fun_mk (st := s_law_smooth_lots) l10 c10 k10
  have b10 := F10.binds (ps := ["cell", "size"]) fun _ _ _ _ _ _ us hl => match us, hl with | [_, _], _ => rfl
  have F11 := fun_mk (st := s_law_within) l11 c11 k11
  have b11 := F11.binds (ps := ["inner", "outer"]) fun _ _ _ _ _ _ us hl => match us, hl with | [_, _], _ => rfl
  have F12 := fun_mk (st := s_law_antichain) l12 c12 k12
  have b12 := F12.binds (ps := ["rows"]) fun _ _ _ _ _ _ us hl => match us, hl with | [_], _ => rfl
  have F13 := fun_mk (st := s_law_any_lots) l13 c13 k13
  have b13 := F13.binds (ps := ["cell", "size"]) fun _ _ _ _ _ _ us hl => match us, hl with | [_, _], _ => rfl
  have F14 := fun_mk (st := s_law_lots) l14 c14 k14
  have b14 := F14.binds (ps := ["cell", "size"]) fun _ _ _ _ _ _ us hl => match us, hl with | [_, _], _ => rfl
  have F15 := fun_mk (st := s_law_game) l15 c15 k15
  have b15 := F15.binds (ps := ["script", "first", "smooth"]) fun _ _ _ _ _ _ us hl => match us, hl with | [_, _, _], _ => rfl
  have F16 := fun_mk (st := s_law_size) l16 c16 k16
  have b16 := F16.binds (ps := ["game"]) fun _ _ _ _ _ _ us hl => match us, hl with | [_], _ => rfl
  have F17 := fun_mk (st := s_law_is_free) l17 c17 k17
  have b17 := F17.binds (ps := ["lots", "row"]) fun _ _ _ _ _ _ us hl => match us, hl with | [_, _], _ => rfl
  have F18 := fun_mk (st := s_law_cost) l18 c18 k18
  have b18 := F18.binds (ps := ["game", "sets", "taker", "thing", "more"]) fun _ _ _ _ _ _ us hl => match us, hl with | [_, _, _, _, _], _ => rfl
  have F19 := fun_mk (st := s_law_exchanged) l19 c19 k19
  have b19 := F19.binds (ps := ["lot", "out", "put"]) fun _ _ _ _ _ _ us hl => match us, hl with | [_, _, _], _ => rfl
  have F20 := fun_mk (st := s_law_step) l20 c20 k20
  have b20 := F20.binds (ps := ["game", "sets", "move"]) fun _ _ _ _ _ _ us hl => match us, hl with | [_, _, _], _ => rfl
  have F21 := fun_mk (st := s_law_all_moves) l21 c21 k21
  have b21 := F21.binds (ps := ["count", "size"]) fun _ _ _ _ _ _ us hl => match us, hl with | [_, _], _ => rfl
  have F22 := fun_mk (st := s_law_grown) l22 c22 k22
  have b22 := F22.binds (ps := ["game", "draws", "size"]) fun _ _ _ _ _ _ us hl => match us, hl with | [_, _, _], _ => rfl
  have F23 := fun_mk (st := s_law_is_integer) l23 c23 k23
  have b23 := F23.binds (ps := ["value"]) fun _ _ _ _ _ _ us hl => match us, hl with | [_], _ => rfl
  have F24 := fun_mk (st := s_law_is_set) l24 c24 k24
  have b24 := F24.binds (ps := ["value", "size"]) fun _ _ _ _ _ _ us hl => match us, hl with | [_, _], _ => rfl
  have F25 := fun_mk (st := s_law_are_sets) l25 c25 k25
  have b25 := F25.binds (ps := ["told", "due", "size"]) fun _ _ _ _ _ _ us hl => match us, hl with | [_, _, _], _ => rfl
  have F26 := fun_mk (st := s_count_sets) l26 c26 k26
  have b26 := F26.binds (ps := ["size", "sets"]) fun _ _ _ _ _ _ us hl => match us, hl with | [_, _], _ => rfl
  have F27 := fun_mk (st := s_leave_out) l27 c27 k27
  have b27 := F27.binds (ps := ["things", "out"]) fun _ _ _ _ _ _ us hl => match us, hl with | [_, _], _ => rfl
  have F28 := fun_mk (st := s_fewer_by_one) l28 c28 k28
  have b28 := F28.binds (ps := ["things"]) fun _ _ _ _ _ _ us hl => match us, hl with | [_], _ => rfl
  have F29 := fun_mk (st := s_free_sets) l29 c29 k29
  have b29 := F29.binds (ps := ["offer"]) fun _ _ _ _ _ _ us hl => match us, hl with | [_], _ => rfl
  have F30 := fun_mk (st := s_Moment___init__) l30 c30 k30
  have b30 := F30.binds (ps := ["self", "size", "takers", "sets"]) fun _ _ _ _ _ _ us hl => match us, hl with | [_, _, _, _], _ => rfl
  have F31 := fun_mk (st := s_empty_moment) l31 c31 k31
  have b31 := F31.binds (ps := ["game"]) fun _ _ _ _ _ _ us hl => match us, hl with | [_], _ => rfl
  have F32 := fun_mk (st := s_put_in) l32 c32 k32
  have b32 := F32.binds (ps := ["things", "into"]) fun _ _ _ _ _ _ us hl => match us, hl with | [_, _], _ => rfl
  have F33 := fun_mk (st := s_Moment_make) l33 c33 k33
  have b33 := F33.binds (ps := ["self", "move"]) fun _ _ _ _ _ _ us hl => match us, hl with | [_, _], _ => rfl
  have F34 := fun_mk (st := s_Moment_can_add) l34 c34 k34
  have b34 := F34.binds (ps := ["self", "taker", "thing"]) fun _ _ _ _ _ _ us hl => match us, hl with | [_, _, _], _ => rfl
  have F35 := fun_mk (st := s_cost_at) l35 c35 k35
  have b35 := F35.binds (ps := ["costs", "thing", "load"]) fun _ _ _ _ _ _ us hl => match us, hl with | [_, _, _], _ => rfl
  have F36 := fun_mk (st := s_Moment_cost_next) l36 c36 k36
  have b36 := F36.binds (ps := ["self", "taker", "thing"]) fun _ _ _ _ _ _ us hl => match us, hl with | [_, _, _], _ => rfl
  have F37 := fun_mk (st := s_Moment_cost_now) l37 c37 k37
  have b37 := F37.binds (ps := ["self", "taker", "thing"]) fun _ _ _ _ _ _ us hl => match us, hl with | [_, _, _], _ => rfl
  have F38 := fun_mk (st := s_exchange) l38 c38 k38
  have b38 := F38.binds (ps := ["things", "out", "into"]) fun _ _ _ _ _ _ us hl => match us, hl with | [_, _, _], _ => rfl
  have F39 := fun_mk (st := s_Moment_can_exchange) l39 c39 k39
  have b39 := F39.binds (ps := ["self", "taker", "out", "into"]) fun _ _ _ _ _ _ us hl => match us, hl with | [_, _, _, _], _ => rfl
  have F40 := fun_mk (st := s_Moment_is_allowed) l40 c40 k40
  have b40 := F40.binds (ps := ["self", "move"]) fun _ _ _ _ _ _ us hl => match us, hl with | [_, _], _ => rfl
  have F41 := fun_mk (st := s_replay) l41 c41 k41
  have b41 := F41.binds (ps := ["game", "log"]) fun _ _ _ _ _ _ us hl => match us, hl with | [_, _], _ => rfl
  have F42 := fun_mk (st := s_law_refused) l42 c42 k42
  have b42 := F42.binds (ps := ["game", "log"]) fun _ _ _ _ _ _ us hl => match us, hl with | [_, _], _ => rfl
  have F43 := fun_mk (st := s_law_is_near) l43 c43 k43
  have b43 := F43.binds (ps := ["game", "sets", "move"]) fun _ _ _ _ _ _ us hl => match us, hl with | [_, _, _], _ => rfl
  have F44 := fun_mk (st := s_law) l44 c44 k44
  have A_Moment : ClsF K c_Moment ["costs", "free", "sets", "counts"] := ⟨⟨og_Moment, oh_Moment, oo_Moment, os_Moment⟩, fun f hf => by
    simp only [List.mem_cons, List.not_mem_nil, or_false] at hf
    rcases hf with rfl | rfl | rfl | rfl
    · exact on0_Moment
    · exact on1_Moment
    · exact on2_Moment
    · exact on3_Moment⟩
  have F_BadMove : ErrX K mg c_BadMove "position" := errX_mk T_BadMove (PySem.W.mg_of X G ga_TakersrestError) lf_BadMove ci_BadMove rfl (fun _ _ _ => .of_eq rfl) (fun _ _ => rfl) rfl rfl rfl (fun _ => rfl) (fun _ => rfl) (fun _ => rfl) (fun _ _ _ => rfl) (fun _ _ _ => rfl) (by decide) (by decide) (fun _ => rfl) rfl (fun _ => rfl) (fun _ => rfl) (fun _ => rfl) (fun _ => rfl) (fun _ => rfl) (fun _ => rfl) (fun _ => rfl)
  refine ⟨PySem.W.fnOf "law" "law" (defArgs s_law) (defBody s_law) (defScope s_law) .none kV44 dc44 pm44 an44 cd44 ct44, [], spD K [] (m_law_k66 c_BadMove c_Moment), fun p hp => ?_, fun p hp => ?_, fun p hp => ?_, fun s v => .of_eq rfl, fun H a ns hl hb hT hS => ?_, fun base _ _ TB => ?_⟩
  · exact absurd hp (by simp)
  · exact absurd hp (by simp)
  · exact absurd hp (by simp)
  · exact spD_law (main_k66 c_BadMove c_Moment) (fun p hp => absurd hp (by simp)) hl hS
  · have tbB : ∀ (P c : Addr), (c, P) ∈ ([] : List (Addr × Addr)) → GxR.TabB base mg c P := fun P c m => tabB_of (TB _ m)
    have D1 := ok_law_draws (P := l.prog) (w := w) (base := base) (Tb := []) F1 (PySem.W.mg_of X G a1) b1 B
    have D2 := ok_law_cell (P := l.prog) (w := w) (base := base) (Tb := []) F2 (PySem.W.mg_of X G a2) b2 B
    have D3 := ok_law_costs (P := l.prog) (w := w) (base := base) (Tb := []) F3 D1 (PySem.W.mg_of X G a3) b3 B
    have D4 := ok_law_parts_of (P := l.prog) (w := w) (base := base) (Tb := []) F4 (PySem.W.mg_of X G a4) b4 B
    have D5 := ok_law_count (P := l.prog) (w := w) (base := base) (Tb := []) F5 (PySem.W.mg_of X G a5) b5 B
    have D6 := ok_law_bounded_lots (P := l.prog) (w := w) (base := base) (Tb := []) F6 D4 D5 (PySem.W.mg_of X G a6) b6 B
    have D7 := ok_law_is_forest (P := l.prog) (w := w) (base := base) (Tb := []) F7 (PySem.W.mg_of X G a7) b7 B
    have D8 := ok_law_forest_lots (P := l.prog) (w := w) (base := base) (Tb := []) F8 D4 D7 (PySem.W.mg_of X G a8) b8 B
    have D9 := ok_law_rest_of (P := l.prog) (w := w) (base := base) (Tb := []) F9 (PySem.W.mg_of X G a9) b9 B
    have D10 := ok_law_smooth_lots (P := l.prog) (w := w) (base := base) (Tb := []) F10 D1 D6 D8 D9 (PySem.W.mg_of X G a10) b10 B
    have D11 := ok_law_within (P := l.prog) (w := w) (base := base) (Tb := []) F11 (PySem.W.mg_of X G a11) b11 B
    have D12 := ok_law_antichain (P := l.prog) (w := w) (base := base) (Tb := []) F12 D11 (PySem.W.mg_of X G a12) b12 B
    have D13 := ok_law_any_lots (P := l.prog) (w := w) (base := base) (Tb := []) F13 D1 D4 D12 (PySem.W.mg_of X G a13) b13 B
    have D14 := ok_law_lots (P := l.prog) (w := w) (base := base) (Tb := []) F14 D1 D13 D10 (PySem.W.mg_of X G a14) b14 B
    have D15 := ok_law_game (P := l.prog) (w := w) (base := base) (Tb := []) F15 D1 D2 D3 D10 D14 (PySem.W.mg_of X G a15) b15 B
    have D16 := ok_law_size (P := l.prog) (w := w) (base := base) (Tb := []) F16 (PySem.W.mg_of X G a16) b16 B
    have D17 := ok_law_is_free (P := l.prog) (w := w) (base := base) (Tb := []) F17 D11 (PySem.W.mg_of X G a17) b17 B
    have D18 := ok_law_cost (P := l.prog) (w := w) (base := base) (Tb := []) F18 (PySem.W.mg_of X G a18) b18 B
    have D19 := ok_law_exchanged (P := l.prog) (w := w) (base := base) (Tb := []) F19 (PySem.W.mg_of X G a19) b19 B
    have D20 := ok_law_step (P := l.prog) (w := w) (base := base) (Tb := []) F20 D17 D18 D19 (PySem.W.mg_of X G a20) b20 B
    have D21 := ok_law_all_moves (P := l.prog) (w := w) (base := base) (Tb := []) F21 (PySem.W.mg_of X G a21) b21 B
    have D22 := ok_law_grown (P := l.prog) (w := w) (base := base) (Tb := []) F22 D20 D21 (PySem.W.mg_of X G a22) b22 B
    have D23 := ok_law_is_integer (P := l.prog) (w := w) (base := base) (Tb := []) F23 (PySem.W.mg_of X G a23) b23 B
    have DH23 := okH_law_is_integer (P := l.prog) (w := w) (base := base) (Tb := []) F23 (PySem.W.mg_of X G a23) b23 B
    have D24 := ok_law_is_set (P := l.prog) (w := w) (base := base) (Tb := []) F24 D23 (PySem.W.mg_of X G a24) b24 B
    have D25 := ok_law_are_sets (P := l.prog) (w := w) (base := base) (Tb := []) F25 D24 (PySem.W.mg_of X G a25) b25 B
    have D26 := ok_count_sets (P := l.prog) (w := w) (base := base) (Tb := []) F26 (PySem.W.mg_of X G a26) b26 B
    have DO26 := okO_count_sets (P := l.prog) (w := w) (base := base) (Tb := []) F26 (PySem.W.mg_of X G a26) b26 B
    have D27 := ok_leave_out (P := l.prog) (w := w) (base := base) (Tb := []) F27 (PySem.W.mg_of X G a27) b27 B
    have D28 := ok_fewer_by_one (P := l.prog) (w := w) (base := base) (Tb := []) F28 D27 (PySem.W.mg_of X G a28) b28 B
    have D29 := ok_free_sets (P := l.prog) (w := w) (base := base) (Tb := []) F29 D28 (PySem.W.mg_of X G a29) b29 B
    have D30 := ok_Moment___init__ (P := l.prog) (w := w) (base := base) (Tb := []) F30 A_Moment D26 D29 DO26 ⟨om_Moment, a30, i30, ok_Moment⟩ (PySem.W.mg_of X G oa_Moment) b30 B
    have D31 := ok_empty_moment (P := l.prog) (w := w) (base := base) (Tb := []) F31 D30 (PySem.W.mg_of X G a31) b31 B
    have D32 := ok_put_in (P := l.prog) (w := w) (base := base) (Tb := []) F32 (PySem.W.mg_of X G a32) b32 B
    have D33 := ok_Moment_make (P := l.prog) (w := w) (base := base) (Tb := []) F33 A_Moment D32 D27 ⟨a33, i33, k33⟩ b33 B
    have D34 := ok_Moment_can_add (P := l.prog) (w := w) (base := base) (Tb := []) F34 A_Moment D32 ⟨a34, i34, k34⟩ b34 B
    have D35 := ok_cost_at (P := l.prog) (w := w) (base := base) (Tb := []) F35 (PySem.W.mg_of X G a35) b35 B
    have D36 := ok_Moment_cost_next (P := l.prog) (w := w) (base := base) (Tb := []) F36 A_Moment D35 ⟨a36, i36, k36⟩ b36 B
    have D37 := ok_Moment_cost_now (P := l.prog) (w := w) (base := base) (Tb := []) F37 A_Moment D35 ⟨a37, i37, k37⟩ b37 B
    have D38 := ok_exchange (P := l.prog) (w := w) (base := base) (Tb := []) F38 D32 D27 (PySem.W.mg_of X G a38) b38 B
    have D39 := ok_Moment_can_exchange (P := l.prog) (w := w) (base := base) (Tb := []) F39 A_Moment D36 D37 D38 ⟨a39, i39, k39⟩ b39 B
    have D40 := ok_Moment_is_allowed (P := l.prog) (w := w) (base := base) (Tb := []) F40 A_Moment D34 D39 ⟨a40, i40, k40⟩ b40 B
    have D41 := ok_replay (P := l.prog) (w := w) (base := base) (Tb := []) F41 A_Moment F_BadMove (PySem.W.mg_of X G ga_BadMove) D31 D33 D40 (PySem.W.mg_of X G a41) b41 B
    have D42 := ok_law_refused (P := l.prog) (w := w) (base := base) (Tb := []) F42 G_BadMove_position (PySem.W.mg_of X G ga_TakersrestError) E_BadMove x_BadMove i_BadMove_BadLine i_BadMove_BadMove i_BadMove_BadThing i_BadMove_NotSmooth i_BadMove_ValueError (PySem.W.mg_of X G ga_BadLine) (PySem.W.mg_of X G ga_BadMove) (PySem.W.mg_of X G ga_BadThing) (PySem.W.mg_of X G ga_NotSmooth) (PySem.W.mg_none_of X G zz_ValueError) D41 D23 DH23 (PySem.W.mg_of X G a42) b42 B
    have D43 := ok_law_is_near (P := l.prog) (w := w) (base := base) (Tb := []) F43 D17 D19 (PySem.W.mg_of X G a43) b43 B
    exact okF_law F44 D15 D16 D1 D22 D21 D2 D25 D42 D41 D43 D20 B
end LW
open PySem PySem.W PyProof.Rows
set_option maxHeartbeats 0 in
theorem PySem.Challenge.cw_takersrest_k66_refused_moves_holds : PySem.Challenge.rw_takersrest_k66_refused_moves.Holds := by
  w_on; o_law; k_head; (case hw => w_witness2)
  k_fill
  refine PD.walk_tabs (l := PySem.Challenge.rw_takersrest_k66_refused_moves) (n := 63) (k := 9) (x := "script") (CX := fun w => L2N.CX PySem.Challenge.rw_takersrest_k66_refused_moves.prog w) rfl (by decide) rfl ⟨rfl, by decide, by decide⟩ (fun w h Y => by first | exact PySem.W.kIn_of Y | exact PySem.W.km_in_of Y) ?F PD.cx_no
  case F =>
    intro w mg fa h TT KX G hmg
    refine' LW.all_mk KX G hmg TT ?oa_Moment ?og_Moment ?oh_Moment ?oo_Moment ?os_Moment ?om_Moment ?ok_Moment ?on0_Moment ?on1_Moment ?on2_Moment ?on3_Moment ?a1 ?l1 ?c1 ?k1 ?a2 ?l2 ?c2 ?k2 ?a3 ?l3 ?c3 ?k3 ?a4 ?l4 ?c4 ?k4 ?a5 ?l5 ?c5 ?k5 ?a6 ?l6 ?c6 ?k6 ?a7 ?l7 ?c7 ?k7 ?a8 ?l8 ?c8 ?k8 ?a9 ?l9 ?c9 ?k9 ?a10 ?l10 ?c10 ?k10 ?a11 ?l11 ?c11 ?k11 ?a12 ?l12 ?c12 ?k12 ?a13 ?l13 ?c13 ?k13 ?a14 ?l14 ?c14 ?k14 ?a15 ?l15 ?c15 ?k15 ?a16 ?l16 ?c16 ?k16 ?a17 ?l17 ?c17 ?k17 ?a18 ?l18 ?c18 ?k18 ?a19 ?l19 ?c19 ?k19 ?a20 ?l20 ?c20 ?k20 ?a21 ?l21 ?c21 ?k21 ?a22 ?l22 ?c22 ?k22 ?a23 ?l23 ?c23 ?k23 ?a24 ?l24 ?c24 ?k24 ?a25 ?l25 ?c25 ?k25 ?a26 ?l26 ?c26 ?k26 ?a27 ?l27 ?c27 ?k27 ?a28 ?l28 ?c28 ?k28 ?a29 ?l29 ?c29 ?k29 ?a30 ?l30 ?c30 ?k30 ?i30 ?a31 ?l31 ?c31 ?k31 ?a32 ?l32 ?c32 ?k32 ?a33 ?l33 ?c33 ?k33 ?i33 ?a34 ?l34 ?c34 ?k34 ?i34 ?a35 ?l35 ?c35 ?k35 ?a36 ?l36 ?c36 ?k36 ?i36 ?a37 ?l37 ?c37 ?k37 ?i37 ?a38 ?l38 ?c38 ?k38 ?a39 ?l39 ?c39 ?k39 ?i39 ?a40 ?l40 ?c40 ?k40 ?i40 ?a41 ?l41 ?c41 ?k41 ?a42 ?l42 ?c42 ?k42 ?a43 ?l43 ?c43 ?k43 ?a44 ?l44 ?c44 ?k44 ?ga_BadLine ?ga_BadMove ?ga_BadThing ?ga_NotSmooth ?ga_TakersrestError ?T_BadMove ?lf_BadMove ?ci_BadMove ?G_BadMove_position ?E_BadMove ?x_BadMove ?i_BadMove_BadLine ?i_BadMove_BadMove ?i_BadMove_BadThing ?i_BadMove_NotSmooth ?i_BadMove_ValueError ?zz_ValueError ?z_len ?z_int ?z_bool ?z_abs ?z_tuple ?z_list ?z_sum ?z_max ?z_min ?z_any ?z_all ?z_range ?z_isinstance ?z_sorted ?z_enumerate ?z_zip ?z_set
    (case oa_Moment => k_is); (case og_Moment => k_is); (case oh_Moment => k_is); (case oo_Moment => k_is); (case os_Moment => k_is); (case om_Moment => k_is); (case ok_Moment => k_is); (case on0_Moment => k_is); (case on1_Moment => k_is); (case on2_Moment => k_is); (case on3_Moment => k_is); (case a1 => k_is); (case l1 => k_is); (case c1 => k_is); (case k1 => k_is); (case a2 => k_is); (case l2 => k_is); (case c2 => k_is); (case k2 => k_is); (case a3 => k_is); (case l3 => k_is); (case c3 => k_is); (case k3 => k_is); (case a4 => k_is); (case l4 => k_is); (case c4 => k_is); (case k4 => k_is); (case a5 => k_is); (case l5 => k_is); (case c5 => k_is); (case k5 => k_is); (case a6 => k_is); (case l6 => k_is); (case c6 => k_is); (case k6 => k_is); (case a7 => k_is); (case l7 => k_is); (case c7 => k_is); (case k7 => k_is); (case a8 => k_is); (case l8 => k_is); (case c8 => k_is); (case k8 => k_is); (case a9 => k_is); (case l9 => k_is); (case c9 => k_is); (case k9 => k_is); (case a10 => k_is); (case l10 => k_is); (case c10 => k_is); (case k10 => k_is); (case a11 => k_is); (case l11 => k_is); (case c11 => k_is); (case k11 => k_is); (case a12 => k_is); (case l12 => k_is); (case c12 => k_is); (case k12 => k_is); (case a13 => k_is); (case l13 => k_is); (case c13 => k_is); (case k13 => k_is); (case a14 => k_is); (case l14 => k_is); (case c14 => k_is); (case k14 => k_is); (case a15 => k_is); (case l15 => k_is); (case c15 => k_is); (case k15 => k_is); (case a16 => k_is); (case l16 => k_is); (case c16 => k_is); (case k16 => k_is); (case a17 => k_is); (case l17 => k_is); (case c17 => k_is); (case k17 => k_is); (case a18 => k_is); (case l18 => k_is); (case c18 => k_is); (case k18 => k_is); (case a19 => k_is); (case l19 => k_is); (case c19 => k_is); (case k19 => k_is); (case a20 => k_is); (case l20 => k_is); (case c20 => k_is); (case k20 => k_is); (case a21 => k_is); (case l21 => k_is); (case c21 => k_is); (case k21 => k_is); (case a22 => k_is); (case l22 => k_is); (case c22 => k_is); (case k22 => k_is); (case a23 => k_is); (case l23 => k_is); (case c23 => k_is); (case k23 => k_is); (case a24 => k_is); (case l24 => k_is); (case c24 => k_is); (case k24 => k_is); (case a25 => k_is); (case l25 => k_is); (case c25 => k_is); (case k25 => k_is); (case a26 => k_is); (case l26 => k_is); (case c26 => k_is); (case k26 => k_is); (case a27 => k_is); (case l27 => k_is); (case c27 => k_is); (case k27 => k_is); (case a28 => k_is); (case l28 => k_is); (case c28 => k_is); (case k28 => k_is); (case a29 => k_is); (case l29 => k_is); (case c29 => k_is); (case k29 => k_is); (case a30 => k_is); (case l30 => k_is); (case c30 => k_is); (case k30 => k_is); (case i30 => k_is); (case a31 => k_is); (case l31 => k_is); (case c31 => k_is); (case k31 => k_is); (case a32 => k_is); (case l32 => k_is); (case c32 => k_is); (case k32 => k_is); (case a33 => k_is); (case l33 => k_is); (case c33 => k_is); (case k33 => k_is); (case i33 => k_is); (case a34 => k_is); (case l34 => k_is); (case c34 => k_is); (case k34 => k_is); (case i34 => k_is); (case a35 => k_is); (case l35 => k_is); (case c35 => k_is); (case k35 => k_is); (case a36 => k_is); (case l36 => k_is); (case c36 => k_is); (case k36 => k_is); (case i36 => k_is); (case a37 => k_is); (case l37 => k_is); (case c37 => k_is); (case k37 => k_is); (case i37 => k_is); (case a38 => k_is); (case l38 => k_is); (case c38 => k_is); (case k38 => k_is); (case a39 => k_is); (case l39 => k_is); (case c39 => k_is); (case k39 => k_is); (case i39 => k_is); (case a40 => k_is); (case l40 => k_is); (case c40 => k_is); (case k40 => k_is); (case i40 => k_is); (case a41 => k_is); (case l41 => k_is); (case c41 => k_is); (case k41 => k_is); (case a42 => k_is); (case l42 => k_is); (case c42 => k_is); (case k42 => k_is); (case a43 => k_is); (case l43 => k_is); (case c43 => k_is); (case k43 => k_is); (case a44 => k_is); (case l44 => k_is); (case c44 => k_is); (case k44 => k_is); (case ga_BadLine => k_is); (case ga_BadMove => k_is); (case ga_BadThing => k_is); (case ga_NotSmooth => k_is); (case ga_TakersrestError => k_is); (case T_BadMove => exact ⟨by k_is, by k_is, by k_is, by k_is, ⟨_, _, _, _, _, _, _, _, _, _, _, _, _, _, _, by k_is, by first | rfl | decide⟩, by k_is, by k_is, by k_is, by k_is, by k_is, by k_is, by k_is⟩); (case lf_BadMove => k_is); (case ci_BadMove => k_is); (case G_BadMove_position => exact ⟨by k_is, by k_is, by k_is, by k_is, by k_is⟩); (case E_BadMove => exact ⟨by k_is, by k_is, by k_is, PD.clsIn_some (by k_is), by k_is, by k_is, by k_is, by k_is, by k_is, by k_is⟩); (case x_BadMove => exact PD.exm_ref (by k_is) (PD.clsIn_some (by k_is)) (by k_is) (by k_is)); (case i_BadMove_BadLine => exact PD.kit_ref (PD.clsIn_some (by k_is)) (by k_is) (by k_is) (fun q => absurd q (by decide))); (case i_BadMove_BadMove => exact PD.kit_ref (PD.clsIn_some (by k_is)) (by k_is) (by k_is) (fun _ => rfl)); (case i_BadMove_BadThing => exact PD.kit_ref (PD.clsIn_some (by k_is)) (by k_is) (by k_is) (fun q => absurd q (by decide))); (case i_BadMove_NotSmooth => exact PD.kit_ref (PD.clsIn_some (by k_is)) (by k_is) (by k_is) (fun q => absurd q (by decide))); (case i_BadMove_ValueError => exact PD.kit_ty (by first | rfl | decide +kernel | kernel_rfl) (by k_is) (by first | rfl | decide)); (case zz_ValueError => k_is); (case z_len => k_is); (case z_int => k_is); (case z_bool => k_is); (case z_abs => k_is); (case z_tuple => k_is); (case z_list => k_is); (case z_sum => k_is); (case z_max => k_is); (case z_min => k_is); (case z_any => k_is); (case z_all => k_is); (case z_range => k_is); (case z_isinstance => k_is); (case z_sorted => k_is); (case z_enumerate => k_is); (case z_zip => k_is); (case z_set => k_is)
