package link

// SkipTo: the attempts up to that token are over. (By Open and Shut the way to
// the last token is too long for a test.)
func (l *Link) SkipTo(token uint32) { l.own.token = token }
