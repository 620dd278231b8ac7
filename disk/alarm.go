package disk

// alarm goes off at one counted call, once; the zero alarm never does. It counts down: the number of a call far ahead might wrap around.
type alarm struct {
	set  bool
	left int
}

// alarmBehind goes off at the call behind n more (below 0: never).
func alarmBehind(n int) alarm {
	if n < 0 {
		return alarm{}
	}
	return alarm{set: true, left: n}
}

// goesOff tells whether the alarm goes off at this call, and counts it otherwise.
func (a *alarm) goesOff() bool {
	if !a.set {
		return false
	}
	if a.left == 0 {
		*a = alarm{}
		return true
	}
	a.left--
	return false
}
