package aes_test

// The words of the chapter, one by one and by other means than the package's, to hold the package against: bytes as numbers, blocks as rows and columns, and the way back too.

// plainProduct multiplies as numbers are multiplied by hand, then divides by X^8 + X^4 + X^3 + X + 1.
func plainProduct(a, b byte) byte {
	product := 0
	for i := range 8 {
		if b>>i&1 == 1 {
			product ^= int(a) << i
		}
	}
	for i := 14; i >= 8; i-- {
		if product>>i&1 == 1 {
			product ^= 0x11B << (i - 8)
		}
	}
	return byte(product)
}

// plainInverse tries all bytes.
func plainInverse(a byte) byte {
	for b := range 256 {
		if plainProduct(a, byte(b)) == 1 {
			return byte(b)
		}
	}
	return 0
}

// plainSBox sums up bit for bit.
func plainSBox(x byte) byte {
	v := plainInverse(x)
	out := 0
	for i := range 8 {
		sum := 0x63 >> i
		for _, k := range []int{0, 4, 5, 6, 7} {
			sum += int(v >> ((i + k) % 8))
		}
		out += sum % 2 << i
	}
	return byte(out)
}

// plain is the cipher of one key.
type plain struct {
	box, unbox [256]byte
	words      [60][4]byte
}

func newPlain(key []byte) *plain {
	p := &plain{}
	for x := range 256 {
		p.box[x] = plainSBox(byte(x))
		p.unbox[p.box[x]] = byte(x)
	}
	p.setKey(key)
	return p
}

// setKey takes another key, with the same substitutions.
func (p *plain) setKey(key []byte) {
	for i := range p.words {
		for k := range 4 {
			if i < 8 {
				p.words[i][k] = key[4*i+k]
			} else {
				p.words[i][k] = p.words[i-8][k] ^ p.turned(i, k)
			}
		}
	}
}

// turned is the byte k of the word t by which the round word i comes out of the word i - 8.
func (p *plain) turned(i, k int) byte {
	ahead := p.words[i-1]
	switch {
	case i%8 == 0 && k == 0:
		power := []byte{0x01, 0x02, 0x04, 0x08, 0x10, 0x20, 0x40}[i/8-1]
		return p.box[ahead[1]] ^ power
	case i%8 == 0:
		return p.box[ahead[(k+1)%4]]
	case i%4 == 0:
		return p.box[ahead[k]]
	}
	return ahead[k]
}

func (p *plain) roundKey(r int) [16]byte {
	var out [16]byte
	for i := range out {
		out[i] = p.words[4*r+i/4][i%4]
	}
	return out
}

func (p *plain) withKey(x [16]byte, r int) [16]byte {
	key := p.roundKey(r)
	for i := range x {
		x[i] ^= key[i]
	}
	return x
}

// moved has at each place the byte that stood in the same row, by so many columns times the row's number further on.
func moved(x [16]byte, by int) [16]byte {
	var out [16]byte
	for c := range 4 {
		for r := range 4 {
			from := ((c+by*r)%4 + 4) % 4
			out[4*c+r] = x[4*from+r]
		}
	}
	return out
}

func replaced(x [16]byte, box [256]byte) [16]byte {
	for i := range x {
		x[i] = box[x[i]]
	}
	return x
}

var (
	forward  = [4][4]byte{{2, 3, 1, 1}, {1, 2, 3, 1}, {1, 1, 2, 3}, {3, 1, 1, 2}}
	backward = [4][4]byte{{14, 11, 13, 9}, {9, 14, 11, 13}, {13, 9, 14, 11}, {11, 13, 9, 14}}
)

// mixed multiplies each column by a matrix.
func mixed(x [16]byte, matrix [4][4]byte) [16]byte {
	var out [16]byte
	for c := range 4 {
		for r := range 4 {
			for k := range 4 {
				out[4*c+r] ^= plainProduct(matrix[r][k], x[4*c+k])
			}
		}
	}
	return out
}

// start is what the round r begins with; start(in, 15) is the answer.
func (p *plain) start(in [16]byte, r int) [16]byte {
	x := p.withKey(in, 0)
	for i := 1; i < r; i++ {
		x = moved(replaced(x, p.box), 1)
		if i != 14 {
			x = mixed(x, forward)
		}
		x = p.withKey(x, i)
	}
	return x
}

func (p *plain) block(in [16]byte) [16]byte { return p.start(in, 15) }

// before is the block whose round r begins with x; before(x, 15) is the way back from an answer.
func (p *plain) before(x [16]byte, r int) [16]byte {
	for i := r - 1; i >= 1; i-- {
		x = p.withKey(x, i)
		if i != 14 {
			x = mixed(x, backward)
		}
		x = replaced(moved(x, -1), p.unbox)
	}
	return p.withKey(x, 0)
}
