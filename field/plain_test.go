package field_test

// The words of the chapter, coefficient by coefficient, to hold the package against.

// polynomial has the coefficient of X^i as its element i; one that is not 0 is true.
type polynomial []bool

// The places of the two moduli's coefficients below the highest one, X^8 and X^128.
var (
	low8   = []int{4, 3, 1, 0}
	low128 = []int{7, 2, 1, 0}
)

func polynomialOfByte(a byte) polynomial {
	p := make(polynomial, 8)
	for i := range p {
		p[i] = a/(1<<i)%2 == 1
	}
	return p
}

func byteOfPolynomial(p polynomial) byte {
	var a byte
	for i, one := range p {
		if one {
			a += 1 << i
		}
	}
	return a
}

func polynomialOfBlock(x [16]byte) polynomial {
	p := make(polynomial, 128)
	for i := range p {
		p[i] = x[i/8]/(1<<(7-i%8))%2 == 1
	}
	return p
}

func blockOfPolynomial(p polynomial) [16]byte {
	var x [16]byte
	for i, one := range p {
		if one {
			x[i/8] += 1 << (7 - i%8)
		}
	}
	return x
}

// plainProduct is the product as polynomials are multiplied, nothing brought down.
func plainProduct(a, b polynomial) polynomial {
	out := make(polynomial, len(a)+len(b)-1)
	for i, one := range a {
		for j := range b {
			if one && b[j] {
				out[i+j] = !out[i+j]
			}
		}
	}
	return out
}

// plainRest is what is left of p modulo X^high and the powers of X that low names.
func plainRest(p polynomial, high int, low []int) polynomial {
	for i := len(p) - 1; i >= high; i-- {
		if !p[i] {
			continue
		}
		p[i] = false
		for _, k := range low {
			p[i-high+k] = !p[i-high+k]
		}
	}
	return p[:high]
}

func plainMul8(a, b byte) byte {
	return byteOfPolynomial(plainRest(plainProduct(polynomialOfByte(a), polynomialOfByte(b)), 8, low8))
}

func plainMul128(x, y [16]byte) [16]byte {
	return blockOfPolynomial(plainRest(plainProduct(polynomialOfBlock(x), polynomialOfBlock(y)), 128, low128))
}
