package crc_test

// The words of the chapter, step by step, to hold the package against.

// turn is the number of steps behind which every register is what it was.
const turn = 1<<31 - 1

func plainStep(r uint32) uint32 {
	if r&1 == 1 {
		return r>>1 ^ 0x82F63B78
	}
	return r >> 1
}

// plainStepBack undoes a step. The number 82F63B78 has its highest bit, so that bit tells which way the step went.
func plainStepBack(r uint32) uint32 {
	if r>>31 == 1 {
		return (r^0x82F63B78)<<1 | 1
	}
	return r << 1
}

// plainSteps goes k steps, back if k is below 0.
func plainSteps(r uint32, k int) uint32 {
	for ; k > 0; k-- {
		r = plainStep(r)
	}
	for ; k < 0; k++ {
		r = plainStepBack(r)
	}
	return r
}

func plainUpdate(c uint32, b []byte) uint32 {
	r := c ^ 0xFFFFFFFF
	for _, x := range b {
		r = plainSteps(r^uint32(x), 8)
	}
	return r ^ 0xFFFFFFFF
}

func plainSum(b []byte) uint32 { return plainUpdate(0, b) }
