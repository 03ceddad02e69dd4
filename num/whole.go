package num

import "rookery/api"

func inRange(n int64) bool { return api.MinInt <= n && n <= api.MaxInt }

func doInts(op int, a, b int64) (api.Term, api.Errno) {
	if b == 0 && (op == api.Div || op == api.Rem) {
		return api.Term{}, api.ErrNumZero
	}
	return pairOfInts(a, b)[op]()
}

// pairOfInts: a sum, a difference and a quotient of two numbers of 63 bits
// never leave 64, so Int sees them whole; a product may, and is looked at apart.
func pairOfInts(a, b int64) [api.Rem + 1]func() (api.Term, api.Errno) {
	return [api.Rem + 1]func() (api.Term, api.Errno){
		api.Add: func() (api.Term, api.Errno) { return Int(a + b) },
		api.Sub: func() (api.Term, api.Errno) { return Int(a - b) },
		api.Mul: func() (api.Term, api.Errno) { return product(a, b) },
		api.Div: func() (api.Term, api.Errno) { return Int(a / b) },
		api.Rem: func() (api.Term, api.Errno) { return Int(a % b) },
	}
}

func oneInt(n int64) [api.Size + 1]func() (api.Term, api.Errno) {
	itself := func() (api.Term, api.Errno) { return Int(n) }
	return [api.Size + 1]func() (api.Term, api.Errno){
		api.Neg:  func() (api.Term, api.Errno) { return Int(-n) },
		api.Conj: itself,
		api.Re:   itself,
		api.Im:   func() (api.Term, api.Errno) { return Int(0) },
		api.Size: func() (api.Term, api.Errno) { return product(n, n) },
	}
}

// product: one that wrapped round differs from the true one by at least 2^64,
// so that dividing it by b cannot lead back to a.
func product(a, b int64) (api.Term, api.Errno) {
	n := a * b
	if b != 0 && n/b != a {
		return api.Term{}, api.ErrNumRange
	}
	return Int(n)
}
