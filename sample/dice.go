package sample

// Dice throw numbers by a rule: dice that begin alike throw alike.
type Dice uint64

// Below throws a number from 0 on and below n.
func (d *Dice) Below(n int) int {
	*d = *d*6364136223846793005 + 1442695040888963407
	// The lower bits of such numbers come round soon.
	return int(*d>>33) % n
}

// Pick throws for one of a list.
func Pick[T any](d *Dice, l []T) T {
	return l[d.Below(len(l))]
}

// Bytes are n bytes that dice threw.
func Bytes(n int) []byte {
	d := Dice(n)
	b := make([]byte, n)
	for i := range b {
		b[i] = byte(d.Below(octet))
	}
	return b
}
