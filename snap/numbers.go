package snap

// whole is what a number of the form is of.
type whole interface {
	~uint8 | ~uint16 | ~uint64
}

// width is how many bytes a number of that type has.
func width[N whole]() int {
	n := 0
	for most := uint64(^N(0)); most > 0; most >>= 8 {
		n++
	}
	return n
}

// appendNumber writes all bytes of a number behind others, the lowest first.
func appendNumber[N whole](to []byte, n N) []byte {
	rest := uint64(n)
	for range width[N]() {
		to = append(to, byte(rest))
		rest >>= 8
	}
	return to
}

// readNumber is the number that was written so.
func readNumber[N whole](from []byte) N {
	n := uint64(0)
	for k := len(from) - 1; k >= 0; k-- {
		n = n<<8 | uint64(from[k])
	}
	return N(n)
}
