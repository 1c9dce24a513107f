package frac

import "unbent/api"

// A number is written in pieces of as many digits as fit in a word.
const (
	pieceDigits = 9
	piece       = 1000000000
)

// Print writes a as a decimal numerator, and, if it is not 1, a slash and the denominator.
func Print(a api.Frac) string {
	r := read(a)
	var out []byte
	if r.num.below {
		out = append(out, '-')
	}
	out = append(out, r.num.digits()...)
	if !r.den.isOne() {
		out = append(out, '/')
		out = append(out, r.den.digits()...)
	}
	return string(out)
}

// Parse reads what Print writes, if no number has more than MaxDigits digits; else ErrFrac. Writing what was read tells whether it stood there in the only way that counts.
func Parse(s string) (api.Frac, api.Errno) {
	unsigned, below := s, false
	if len(s) > 0 && s[0] == '-' {
		unsigned, below = s[1:], true
	}
	top, bottom := unsigned, "1"
	if at := slash(unsigned); at >= 0 {
		top, bottom = unsigned[:at], unsigned[at+1:]
	}
	num, ok := fromDigits(top)
	den, fine := fromDigits(bottom)
	if f := (api.Frac{Neg: below, Num: num.clone(), Den: den.clone()}); ok && fine && Print(f) == s {
		return f, api.OK
	}
	return api.Frac{}, api.ErrFrac
}

// slash is the place of the first slash, -1 if there is none.
func slash(s string) int {
	for i := 0; i < len(s); i++ {
		if s[i] == '/' {
			return i
		}
	}
	return -1
}

// fromDigits reads digits, MaxDigits at most.
func fromDigits(s string) (words, bool) {
	if len(s) > api.MaxDigits {
		return nil, false
	}
	var out words
	for i := 0; i < len(s); i++ {
		if s[i] < '0' || s[i] > '9' {
			return nil, false
		}
		out = out.mul(fromUint(10)).add(fromUint(uint64(s[i] - '0')))
	}
	return out, true
}

// digits writes a in decimal digits.
func (a words) digits() []byte {
	if a.isZero() {
		return []byte{'0'}
	}
	var backward []byte
	for left := a.clone(); !left.isZero(); left = left.trim() {
		rest := left.divWord(piece)
		for range pieceDigits {
			backward = append(backward, byte('0'+rest%10))
			rest /= 10
		}
	}
	n := len(backward)
	for backward[n-1] == '0' {
		n--
	}
	out := make([]byte, n)
	for i := range out {
		out[i] = backward[n-1-i]
	}
	return out
}
