package arrange

import "rack/api"

// reader goes through a text byte by byte. Once a byte cannot stand where it is, the reader stays at its place and reads no more, so that an item can be read in one go and the fault be asked for at its end.
type reader struct {
	text string
	at   int
	bad  bool
}

// sees tells whether the next byte is one from low to high.
func (r *reader) sees(low byte, high byte) bool {
	return r.at < len(r.text) && r.text[r.at] >= low && r.text[r.at] <= high
}

// take reads one byte from low to high.
func (r *reader) take(low byte, high byte) {
	seen := r.sees(low, high)
	if r.bad || !seen {
		r.bad = true
		return
	}
	r.at++
}

// word reads just these bytes.
func (r *reader) word(word string) {
	for i := 0; i < len(word); i++ {
		r.take(word[i], word[i])
	}
}

// name reads a name. It leaves a letter beyond the last that there may be to whatever is read next, which no letter fits.
func (r *reader) name() string {
	start := r.at
	r.take('a', 'z')
	for i := 1; i < api.MaxName; i++ {
		letter := r.sees('a', 'z')
		if letter {
			r.take('a', 'z')
		}
	}
	return r.text[start:r.at]
}

// digit reads a digit from low to high.
func (r *reader) digit(low byte, high byte) int {
	place := r.at
	r.take(low, high)
	if r.bad {
		return 0
	}
	return int(r.text[place] - '0')
}

// number reads a digit 0 to 7.
func (r *reader) number() int {
	return r.digit('0', '7')
}

// mode reads `ro` or `rw`, and tells whether it is for reading alone.
func (r *reader) mode() bool {
	r.word("r")
	only := r.sees('o', 'o')
	if only {
		r.word("o")
		return true
	}
	r.word("w")
	return false
}

// disk reads `disk NAME SIZE;`.
func (r *reader) disk() Item {
	r.word("disk ")
	name := r.name()
	r.word(" ")
	size := r.digit('1', '9')
	r.word(";")
	return Item{Key: Key{Kind: Disk, Name: name}, Size: size}
}

// target reads `target NAME;`.
func (r *reader) target() Item {
	r.word("target ")
	name := r.name()
	r.word(";")
	return Item{Key: Key{Kind: Target, Name: name}}
}

// lun reads `lun TARGET NUMBER DISK MODE;`.
func (r *reader) lun() Item {
	r.word("lun ")
	target := r.name()
	r.word(" ")
	number := r.number()
	r.word(" ")
	disk := r.name()
	r.word(" ")
	only := r.mode()
	r.word(";")
	return Item{Key: Key{Kind: Lun, Name: target, Number: number}, Disk: disk, Only: only}
}

// host reads `host TARGET HOST;`.
func (r *reader) host() Item {
	r.word("host ")
	target := r.name()
	r.word(" ")
	host := r.name()
	r.word(";")
	return Item{Key: Key{Kind: Host, Name: target, Host: host}}
}

// maps reads `map TARGET HOST NUMBER LUN;`.
func (r *reader) maps() Item {
	r.word("map ")
	target := r.name()
	r.word(" ")
	host := r.name()
	r.word(" ")
	number := r.number()
	r.word(" ")
	lun := r.number()
	r.word(";")
	return Item{Key: Key{Kind: Map, Name: target, Host: host, Number: number}, Lun: lun}
}

// item reads an item, and lays down its text.
func (r *reader) item() Item {
	start := r.at
	it := r.anyKind()
	it.Text = r.text[start:r.at]
	return it
}

// anyKind reads an item of any kind: the first byte tells which.
func (r *reader) anyKind() Item {
	if r.at >= len(r.text) {
		r.bad = true
		return Item{}
	}
	switch r.text[r.at] {
	case 'd':
		return r.disk()
	case 't':
		return r.target()
	case 'l':
		return r.lun()
	case 'h':
		return r.host()
	case 'm':
		return r.maps()
	}
	r.bad = true
	return Item{}
}
