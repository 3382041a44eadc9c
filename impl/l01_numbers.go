package impl

// The codes of all chapters.
const (
	OK         = 0
	ErrBad     = 1
	ErrShort   = 2
	ErrForm    = 3
	ErrLong    = 4
	ErrKey     = 5
	ErrFrame   = 6
	ErrState   = 7
	ErrFlow    = 8
	ErrLimit   = 9
	ErrFinal   = 10
	ErrParam   = 11
	ErrVersion = 12
	ErrToken   = 13
	ErrIds     = 14
	ErrBlocked = 15
	ErrTable   = 16
	ErrMessage = 17
	ErrPlace   = 18
	ErrRoute   = 19
	ErrLine    = 20
	ErrIdle    = 21
	ErrClosed  = 22
	ErrCancel  = 23
)

const (
	MaxVar   = 4611686018427387903
	MaxBytes = 65536
	MaxList  = 4096
)

// varForm is a form of a variable integer, numbered as the two highest bits of its first byte tell it.
type varForm int

const (
	formOne varForm = iota
	formTwo
	formFour
	formEight
	varForms
)

var varFormLengths = [varForms]int{1, 2, 4, 8}

func (f varForm) length() int { return varFormLengths[f] }

// greatest is also the mask of the bits that are the number: the form's own bits are the two above them.
func (f varForm) greatest() int { return 1<<uint(8*f.length()-2) - 1 }

func shortestForm(v int) (varForm, bool) {
	if v < 0 {
		return 0, false
	}
	for f := range varForms {
		if v <= f.greatest() {
			return f, true
		}
	}
	return 0, false
}

// VarLen is 0 for a number that no variable integer holds.
func VarLen(v int) int {
	f, ok := shortestForm(v)
	if !ok {
		return 0
	}
	return f.length()
}

// PutVar gives the shortest form of v.
func PutVar(v int) ([]byte, int) {
	f, ok := shortestForm(v)
	if !ok {
		return nil, ErrBad
	}
	out := highFirst(uint64(v), f.length())
	out[0] |= byte(f) << 6
	return out, OK
}

// GetVar takes any of the four forms, not the shortest one alone.
func GetVar(b []byte, at int) (int, int, int) {
	if code := placeCode(b, at); code != OK {
		return 0, 0, code
	}
	if at == len(b) {
		return 0, 0, ErrShort
	}
	f := varForm(b[at] >> 6)
	if f.length() > len(b)-at {
		return 0, 0, ErrShort
	}
	next := at + f.length()
	return int(readHighFirst(b[at:next]) & uint64(f.greatest())), next, OK
}

// PutFixed gives v in n bytes, the highest first.
func PutFixed(v, n int) ([]byte, int) {
	if n < 1 || n > 8 || v < 0 || !fitsBytes(uint64(v), n) {
		return nil, ErrBad
	}
	return highFirst(uint64(v), n), OK
}

// GetFixed reads what PutFixed writes.
func GetFixed(b []byte, at, n int) (int, int, int) {
	if code := placeCode(b, at); code != OK {
		return 0, 0, code
	}
	if n < 1 || n > 8 {
		return 0, 0, ErrBad
	}
	if n > len(b)-at {
		return 0, 0, ErrShort
	}
	// An int has no place for the highest bit of eight bytes.
	if n == 8 && b[at] >= 128 {
		return 0, 0, ErrForm
	}
	return int(readHighFirst(b[at : at+n])), at + n, OK
}

// PutVars gives how many numbers the list has, and the numbers.
func PutVars(list []int) ([]byte, int) {
	if len(list) > MaxList {
		return nil, ErrLong
	}
	out, _ := PutVar(len(list))
	for _, v := range list {
		piece, code := PutVar(v)
		if code != OK {
			return nil, code
		}
		out = append(out, piece...)
	}
	return out, OK
}

// GetVars takes just what PutVars gives: one list has one row of bytes.
func GetVars(b []byte) ([]int, int) {
	if len(b) > MaxBytes {
		return nil, ErrLong
	}
	count, at, ok := getShortest(b, 0)
	if !ok || count > MaxList {
		return nil, ErrForm
	}
	list := make([]int, count)
	for i := range count {
		list[i], at, ok = getShortest(b, at)
		if !ok {
			return nil, ErrForm
		}
	}
	if at != len(b) {
		return nil, ErrForm
	}
	return list, OK
}

// getShortest refuses a number that stands in more bytes than it needs.
func getShortest(b []byte, at int) (int, int, bool) {
	v, next, code := GetVar(b, at)
	return v, next, code == OK && next-at == VarLen(v)
}

// placeCode takes the end of b as a place: that nothing stands there is for the reader to tell.
func placeCode(b []byte, at int) int {
	if len(b) > MaxBytes {
		return ErrLong
	}
	if at < 0 || at > len(b) {
		return ErrBad
	}
	return OK
}

func fitsBytes(v uint64, n int) bool { return n >= 8 || v>>uint(8*n) == 0 }

func highFirst(v uint64, n int) []byte {
	out := make([]byte, n)
	for i := range n {
		out[i] = byte(v >> uint(8*(n-1-i)))
	}
	return out
}

func readHighFirst(b []byte) uint64 {
	v := uint64(0)
	for _, c := range b {
		v = v<<8 | uint64(c)
	}
	return v
}
