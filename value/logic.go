package value

import "unison/api"

// And tells whether all hold.
func And(l ...api.Value) (api.Value, api.Errno) { return settle(truth(false), l...) }

// Or tells whether one holds.
func Or(l ...api.Value) (api.Value, api.Errno) { return settle(truth(true), l...) }

// settle is what And and Or have in common: one truth decides wherever it stands, FALSE for And and TRUE for Or; without it NULL leaves the answer open.
func settle(by api.Value, l ...api.Value) (api.Value, api.Errno) {
	if e := admit(api.Bool, l...); e != api.OK {
		return null(), e
	}
	answer := opposite(by)
	for _, v := range l {
		if v == by {
			return by, api.OK
		}
		if v.Kind == api.Null {
			answer = null()
		}
	}
	return answer, api.OK
}

// Not tells whether it does not hold.
func Not(v api.Value) (api.Value, api.Errno) {
	if e := admit(api.Bool, v); e != api.OK {
		return null(), e
	}
	return opposite(v), api.OK
}

// opposite is the other truth; that of NULL is not known either.
func opposite(v api.Value) api.Value {
	if v.Kind == api.Null {
		return null()
	}
	return truth(v.Int == 0)
}
